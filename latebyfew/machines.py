"""Machines that accept words, and the least one of the sure rounds of a town."""

from latebyfew.errors import BadMachine, BadNumber, BadWord
from latebyfew.rounds import fits
from latebyfew.sure import check_budget, depot_row, next_row, useful_budget
from latebyfew.towns import SHUT, check_town, legs_by_ends, place_row
from latebyfew.values import is_count, is_integer

# The class of the states from which no end can be reached, which is always listed first.
NOWHERE = 0


def is_machine(thing):
    """Whether any value is a machine."""
    if not isinstance(thing, tuple) or len(thing) == 0:
        return False
    if not all([is_state(state, len(thing)) for state in thing]):
        return False
    # States in a circle, also those that cannot be reached, are never put in order.
    return len(ordered(thing)) == len(thing)


def is_state(thing, many):
    """Whether any value can be a state of a machine with that many states."""
    if not isinstance(thing, tuple) or len(thing) != 2:
        return False
    is_end, moves = thing
    if not isinstance(is_end, bool) or not isinstance(moves, tuple):
        return False
    if not all([is_move(move, many) for move in moves]):
        return False
    return all([moves[k][0] < moves[k + 1][0] for k in range(len(moves) - 1)])


def is_move(thing, many):
    """Whether any value can be a move in a machine with that many states."""
    if not isinstance(thing, tuple) or len(thing) != 2:
        return False
    letter, state = thing
    return is_letter(letter) and is_count(state) and state < many


def is_letter(thing):
    """Whether any value is a letter."""
    return is_integer(thing) and thing >= 1


def is_word(thing):
    """Whether any value is a word."""
    return isinstance(thing, tuple) and all([is_letter(letter) for letter in thing])


def check_machine(machine):
    """Raise BadMachine if the value is not a machine."""
    if not is_machine(machine):
        raise BadMachine(machine)


def check_machine_and_word(machine, word):
    """Raise BadMachine or BadWord for the first argument that is none."""
    check_machine(machine)
    if not is_word(word):
        raise BadWord(word)


def ordered(machine):
    """The states that are in no circle and behind none, each ahead of those to which its moves lead."""
    # How many moves lead to a state from such that are not in order yet.
    waiting = [0] * len(machine)
    for state in machine:
        for move in state[1]:
            waiting[move[1]] += 1
    found = [state for state in range(len(machine)) if waiting[state] == 0]
    at = 0
    while at < len(found):
        moves = machine[found[at]][1]
        for move in moves:
            waiting[move[1]] -= 1
            if waiting[move[1]] == 0:
                found.append(move[1])
        at += 1
    return found


def new_classes():
    """The classes (is_end, moves) of states with the same words, by which a least machine is built."""
    return {(False, ()): NOWHERE}


def class_of(classes, is_end, moves):
    """The number of a class, of which moves lead to classes; it is listed if it is new."""
    kept = tuple([move for move in moves if move[1] != NOWHERE])
    return classes.setdefault((is_end, kept), len(classes))


def numbered(classes, start):
    """The machine of the classes that can be reached from start, numbered breadth first."""
    rows = list(classes)
    met = [start]
    numbers = {start: 0}
    states = []
    while len(states) < len(met):
        is_end, moves = rows[met[len(states)]]
        for move in moves:
            if move[1] not in numbers:
                numbers[move[1]] = len(met)
                met.append(move[1])
        states.append((is_end, tuple([(letter, numbers[target]) for letter, target in moves])))
    return tuple(states)


def least(machine):
    """The least machine that accepts the same words."""
    check_machine(machine)
    return least_of(machine)


def least_of(machine):
    """The same, for what surely is a machine."""
    classes = new_classes()
    found = [NOWHERE] * len(machine)
    for state in reversed(ordered(machine)):
        is_end, moves = machine[state]
        found[state] = class_of(classes, is_end, [(letter, found[target]) for letter, target in moves])
    return numbered(classes, found[0])


def is_least(machine):
    """Whether a machine is least."""
    check_machine(machine)
    return least_of(machine) == machine


def sure_machine(town, g):
    """The least machine of the rounds of a town that are sure for g."""
    check_town(town)
    check_budget(g)
    return machine_of(town, g)


def machine_of(town, g):
    """The same, for what surely are a town and a budget."""
    classes = new_classes()
    row = depot_row(useful_budget(len(town[0]), g))
    start = class_of_path(classes, town, legs_by_ends(town), (), row)
    return numbered(classes, start)


def class_of_path(classes, town, legs, path, row):
    """The class of a path, with the worst begins at its last place: the ways on to sure rounds."""
    last = path[-1] if path else 0
    moves = []
    for place in range(1, len(town[0]) + 1):
        longer = path + (place,)
        # What does not fit or breaks a stop is not mended by further places.
        if place not in path and (last, place) in legs and fits(town, longer):
            further = next_row(town, legs[(last, place)], row)
            if further[-1] <= place_row(town, place)[SHUT]:
                moves.append((place, class_of_path(classes, town, legs, longer, further)))
    home = legs.get((last, 0))
    is_end = home is not None and next_row(town, home, row)[-1] <= town[2]
    return class_of(classes, is_end, moves)


def accepts(machine, word):
    """Whether a machine accepts a word."""
    check_machine_and_word(machine, word)
    state = 0
    for letter in word:
        state = dict(machine[state][1]).get(letter)
        if state is None:
            return False
    return machine[state][0]


def counts_of(machine):
    """For each state, how many words lead from it to an end."""
    counts = [0] * len(machine)
    for state in reversed(ordered(machine)):
        is_end, moves = machine[state]
        counts[state] = int(is_end) + sum([counts[target] for _, target in moves])
    return counts


def count(machine):
    """How many words a machine accepts."""
    check_machine(machine)
    return counts_of(machine)[0]


def word_at(machine, k):
    """The word at the position k of the ascending tuple of the accepted words."""
    check_machine(machine)
    counts = counts_of(machine)
    if not is_count(k) or k >= counts[0]:
        raise BadNumber(k)
    word = []
    state = 0
    left = k
    # A word stands ahead of all that go on from it.
    while left > 0 or not machine[state][0]:
        left -= int(machine[state][0])
        for letter, target in machine[state][1]:
            if left < counts[target]:
                word.append(letter)
                state = target
                break
            left -= counts[target]
    return tuple(word)


def place_of(machine, word):
    """The position of a word among the accepted ones; None if it is not accepted."""
    check_machine_and_word(machine, word)
    counts = counts_of(machine)
    place = 0
    state = 0
    for letter in word:
        is_end, moves = machine[state]
        place += int(is_end) + sum([counts[target] for other, target in moves if other < letter])
        state = dict(moves).get(letter)
        if state is None:
            return None
    return place if machine[state][0] else None
