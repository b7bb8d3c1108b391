"""Machines compared by their words, and towns by their sure rounds."""

from latebyfew.errors import BadHow
from latebyfew.machines import check_machine, counts_of, least_of, machine_of
from latebyfew.sure import check_budget
from latebyfew.towns import check_town

# The words that just one of two machines accepts: for parted alone, not for joined.
JUST_ONE = "just one"


def check_machines(one, two):
    """Raise BadMachine for the first of the two that is not a machine."""
    check_machine(one)
    check_machine(two)


def parted(one, two):
    """The least word, by length first, that exactly one of two machines accepts; None if there is none."""
    check_machines(one, two)
    return least_parted(one, two)


def least_parted(one, two):
    """The same, for what surely are machines."""
    return least_word(joined_of(one, two, JUST_ONE))


def least_word(machine):
    """The least word, by length first, that a least machine accepts; None if it accepts none."""
    words = {0: ()}
    # States that are numbered breadth first are met in the order of their least words.
    for number, (is_end, moves) in enumerate(machine):
        word = words[number]
        if is_end:
            return word
        for letter, target in moves:
            words.setdefault(target, word + (letter,))
    return None


def is_within(one, two):
    """Whether the second machine accepts all words of the first one."""
    check_machines(one, two)
    return are_words_within(one, two)


def are_words_within(one, two):
    """The same, for what surely are machines."""
    return least_word(joined_of(one, two, "first")) is None


def joined(one, two, how):
    """The least machine of the words that both accept, or either, or the first one alone."""
    check_machines(one, two)
    if how not in ("both", "either", "first"):
        raise BadHow(how)
    return joined_of(one, two, how)


def joined_of(one, two, how):
    """The same, for what surely are machines and a way to join them."""
    pairs = [(0, 0)]
    numbers = {(0, 0): 0}
    states = []
    while len(states) < len(pairs):
        first, second = pairs[len(states)]
        moves = pair_moves(one, two, first, second)
        for _, pair in moves:
            if pair not in numbers:
                numbers[pair] = len(pairs)
                pairs.append(pair)
        is_end = does_end(how, ends_at(one, first), ends_at(two, second))
        states.append((is_end, tuple([(letter, numbers[pair]) for letter, pair in moves])))
    return least_of(tuple(states))


def pair_moves(one, two, first, second):
    """The moves to pairs of states; None stands where a machine does not go on."""
    here = moves_at(one, first)
    there = moves_at(two, second)
    letters = sorted(set(list(here) + list(there)))
    return [(letter, (here.get(letter), there.get(letter))) for letter in letters]


def moves_at(machine, state):
    """The moves of a state by their letters."""
    return {} if state is None else dict(machine[state][1])


def ends_at(machine, state):
    """Whether a word ends at a state."""
    return state is not None and machine[state][0]


def does_end(how, first, second):
    """Whether a pair of states is an end, by whether each one is."""
    if how == "both":
        return first and second
    if how == "either":
        return first or second
    if how == "first":
        return first and not second
    return first != second


def check_towns(one, two, g):
    """Raise BadTown or BadBudget for the first argument that is none."""
    check_town(one)
    check_town(two)
    check_budget(g)


def parting_round(one, two, g):
    """The least round, by length first, that is sure for g in exactly one of two towns; None if they are alike."""
    check_towns(one, two, g)
    return least_parted(machine_of(one, g), machine_of(two, g))


def is_surer(one, two, g):
    """Whether each round that is sure for g in the second town is so in the first one."""
    check_towns(one, two, g)
    return are_words_within(machine_of(two, g), machine_of(one, g))


def sure_counts(town):
    """The tuple of the numbers of rounds that are sure for g, for g from 0 to the number of places plus 1."""
    check_town(town)
    return tuple([counts_of(machine_of(town, g))[0] for g in range(len(town[0]) + 2)])
