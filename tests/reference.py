"""What the document defines, worked out the long way, for the tests to compare with."""

from itertools import combinations, permutations, product

from latebyfew.rounds import rounds


def driven(town, tour):
    """The legs of a round, by the town's rows."""
    rows = {leg[:2]: leg for leg in town[1]}
    return [rows[ends] for ends in zip((0, *tour), (*tour, 0))]


def bounds(town, tour):
    """For each stop the greatest begin that does not break it."""
    return [town[0][place - 1][1] for place in tour] + [town[2]]


def begins_on(town, tour, day):
    """The begins at the stops of a round on a day."""
    found = []
    clock = 0
    for stop, time in enumerate(day):
        clock += time
        if stop < len(tour):
            clock = max(clock, town[0][tour[stop] - 1][0])
        found.append(clock)
        if stop < len(tour):
            clock += town[0][tour[stop] - 1][2]
    return found


def days_of(town, tour):
    """All days of a round, each with the number of its late legs and its begins."""
    legs = driven(town, tour)
    for day in product(*[range(leg[2], leg[3] + 1) for leg in legs]):
        many = sum(time > leg[2] for time, leg in zip(day, legs))
        yield day, many, begins_on(town, tour, day)


def worst_by_days(town, tour, g):
    """The worst begins for 0 to g, over all days."""
    found = [[None] * (g + 1) for _ in range(len(tour) + 1)]
    for _, many, begun in days_of(town, tour):
        for stop, begin in enumerate(begun):
            for j in range(many, g + 1):
                if found[stop][j] is None or found[stop][j] < begin:
                    found[stop][j] = begin
    return tuple(tuple(row) for row in found)


def is_sure_by_days(town, tour, g):
    """Whether no day with at most g late legs breaks a stop."""
    limits = bounds(town, tour)
    for _, many, begun in days_of(town, tour):
        if many <= g and any(begin > limit for begin, limit in zip(begun, limits)):
            return False
    return True


def day_made_late(town, tour, late):
    """The day on which just these legs take their longest time."""
    return tuple(leg[3] if at in late else leg[2] for at, leg in enumerate(driven(town, tour)))


def stops_broken(town, tour, late):
    """The stops that are broken on the day on which just these legs take their longest time."""
    begun = begins_on(town, tour, day_made_late(town, tour, late))
    return [stop for stop, limit in enumerate(bounds(town, tour)) if begun[stop] > limit]


def attacks(town, tour, g):
    """All attacks of at most g late legs, as pairs of legs and a stop."""
    legs = range(len(tour) + 1)
    rows = [late for many in range(g + 1) for late in combinations(legs, many)]
    return [(late, stop) for late in rows for stop in stops_broken(town, tour, late)]


def sure_rounds(town, g):
    """The rounds that no attack of at most g legs breaks: a longer time makes no stop earlier."""
    return [tour for tour in rounds(town) if not attacks(town, tour, g)]


def is_right_table(town, tour, g, table):
    """Whether a tuple of rows of integers shows that the round is sure for g."""
    legs = driven(town, tour)
    limits = bounds(town, tour)
    if len(table) != len(legs) or any(len(row) != g + 1 for row in table):
        return False
    for stop, row in enumerate(table):
        for j, begin in enumerate(row):
            service = town[0][tour[stop - 1] - 1][2] if stop > 0 else 0
            before = table[stop - 1] if stop > 0 else (0,) * (g + 1)
            least = [before[j] + service + legs[stop][2]]
            if stop < len(tour):
                least.append(town[0][tour[stop] - 1][0])
            if j > 0:
                least.append(before[j - 1] + service + legs[stop][3])
            if begin < max(least) or begin > limits[stop]:
                return False
    return True


def words_of(machine, state=0):
    """All words that a machine accepts, in no order that matters."""
    is_end, moves = machine[state]
    found = [()] if is_end else []
    for letter, target in moves:
        found += [(letter, *word) for word in words_of(machine, target)]
    return found


def machine_of_words(words):
    """The least machine of a set of words: its states are the sets of what can follow."""
    met = [frozenset(words)]
    states = []
    for rests in met:
        moves = []
        for letter in sorted({word[0] for word in rests if word}):
            after = frozenset(word[1:] for word in rests if word and word[0] == letter)
            if after not in met:
                met.append(after)
            moves.append((letter, met.index(after)))
        states.append((() in rests, tuple(moves)))
    return tuple(states)


def machine_moved(machine, order):
    """The same machine with its states numbered anew: the state k becomes the one at order[k]."""
    states = [None] * len(machine)
    for state, (is_end, moves) in enumerate(machine):
        states[order[state]] = (is_end, tuple((letter, order[target]) for letter, target in moves))
    return tuple(states)


def random_machine(draw, many):
    """A machine of that many states; some are alike, lead nowhere, or cannot be reached."""
    ranks = list(range(many))
    draw.shuffle(ranks)
    # The state 0 stands ahead of most, but not of all.
    ranks[0], ranks[ranks.index(min(many // 5, many - 1))] = min(many // 5, many - 1), ranks[0]
    states = []
    for state in range(many):
        behind = [other for other in range(many) if ranks[state] < ranks[other] <= ranks[state] + 5]
        letters = sorted(draw.sample(range(1, 5), draw.choice((0, 1, 2, 2, 3))))
        moves = tuple((letter, draw.choice(behind)) for letter in letters) if behind else ()
        states.append((draw.random() < 0.4, moves))
    return tuple(states)


def numberings(many):
    """All ways to number that many states anew that leave the state 0 in its place."""
    return [(0, *order) for order in permutations(range(1, many))]
