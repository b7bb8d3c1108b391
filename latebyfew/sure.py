"""Rounds that hold on all days with at most g late legs, and what shows it."""

from latebyfew.errors import BadBudget
from latebyfew.rounds import begins_of, check_round, latest_begins, legs_of
from latebyfew.towns import LONGEST, OPEN, SERVICE, USUAL, place_row
from latebyfew.values import is_count, is_count_row


def check_budget(g):
    """Raise BadBudget if the value is not a budget."""
    if not is_count(g):
        raise BadBudget(g)


def check_round_and_budget(town, tour, g):
    """Raise BadTown, BadRound or BadBudget for the first argument that is none."""
    check_round(town, tour)
    check_budget(g)


def worst_begins(town, tour, g):
    """The tuple of rows, one for each stop, of the worst begins for 0 to g."""
    check_round_and_budget(town, tour, g)
    return worst_table(town, tour, g)


def worst_table(town, tour, g):
    """The same, for what surely are a town, a round of it and a budget."""
    rows = []
    row = depot_row(g)
    for leg in legs_of(town, tour):
        row = next_row(town, leg, row)
        rows.append(row)
    return tuple(rows)


def depot_row(g):
    """The times at which the depot is left, for 0 to g late legs."""
    return (0,) * (g + 1)


def next_row(town, leg, row):
    """The worst begins at the end of a leg, from those at its start."""
    service = service_of(town, leg[0])
    opening = open_of(town, leg[1])
    found = [max(opening, begin + service + leg[USUAL]) for begin in row]
    for j in range(1, len(row)):
        found[j] = max(found[j], row[j - 1] + service + leg[LONGEST])
    return tuple(found)


def open_of(town, place):
    """When a place opens; home is open from 0 on."""
    return place_row(town, place)[OPEN] if place > 0 else 0


def service_of(town, place):
    """The service at a place; the depot has none."""
    return place_row(town, place)[SERVICE] if place > 0 else 0


def judge_sure(town, tour, g):
    """A table that shows that a round is sure for g, or an attack."""
    check_round_and_budget(town, tour, g)
    rows = worst_table(town, tour, g)
    latest = latest_begins(town, tour)
    for stop, row in enumerate(rows):
        if row[g] > latest[stop]:
            # The fewest late legs that break it: a row never falls.
            many = len([begin for begin in row if begin <= latest[stop]])
            return ("attack", legs_to_worst(town, tour, rows, stop, many), stop)
    return ("sure", rows)


def legs_to_worst(town, tour, rows, stop, many):
    """The ascending tuple of at most that many late legs that bring about a worst begin."""
    legs = legs_of(town, tour)
    found = []
    left = many
    for at in range(stop, -1, -1):
        leg = legs[at]
        before = rows[at - 1][left] if at > 0 else 0
        on_time = before + service_of(town, leg[0]) + leg[USUAL]
        # Only if neither waiting nor the usual time explains the begin is the leg late.
        if rows[at][left] > max(open_of(town, leg[1]), on_time):
            found.append(at)
            left -= 1
    return tuple(reversed(found))


def sure_holds(town, tour, g, thing):
    """Whether any value is a certificate for the round and the budget."""
    check_round_and_budget(town, tour, g)
    if not isinstance(thing, tuple):
        return False
    if len(thing) == 2 and thing[0] == "sure":
        return is_sure_table(town, tour, g, thing[1])
    if len(thing) == 3 and thing[0] == "attack":
        return is_attack(town, tour, g, thing[1], thing[2])
    return False


def is_sure_table(town, tour, g, thing):
    """Whether any value is a table that shows that the round is sure for g."""
    legs = legs_of(town, tour)
    if not isinstance(thing, tuple) or len(thing) != len(legs):
        return False
    # No right entry is below 0, as no opening and no time is.
    if not all([is_count_row(row, g + 1) for row in thing]):
        return False
    latest = latest_begins(town, tour)
    before = depot_row(g)
    for stop, row in enumerate(thing):
        needed = next_row(town, legs[stop], before)
        if not all([low <= begin <= latest[stop] for low, begin in zip(needed, row)]):
            return False
        before = row
    return True


def is_attack(town, tour, g, late, stop):
    """Whether any values are at most g late legs and a stop that they break."""
    if not are_stops(tour, late) or len(late) > g or not are_stops(tour, (stop,)):
        return False
    day = day_with(town, tour, late)
    return begins_of(town, tour, day)[stop] > latest_begins(town, tour)[stop]


def are_stops(tour, thing):
    """Whether any value is an ascending tuple of stops; the leg to a stop has its position."""
    if not isinstance(thing, tuple) or not all([is_count(at) and at <= len(tour) for at in thing]):
        return False
    return all([thing[k] < thing[k + 1] for k in range(len(thing) - 1)])


def day_with(town, tour, late):
    """The day on which just these legs take their longest time, all others their usual one."""
    legs = legs_of(town, tour)
    return tuple([leg[LONGEST] if at in late else leg[USUAL] for at, leg in enumerate(legs)])


def is_sure(town, tour, g):
    """Whether no day with at most g late legs breaks a stop of the round."""
    check_round_and_budget(town, tour, g)
    return is_enough(strength_of(town, tour), tour, g)


def is_enough(most, tour, g):
    """Whether a round of that strength is sure for g."""
    return most is not None and useful_budget(len(tour), g) <= most


def useful_budget(many, g):
    """How many legs of a round of that many places can be late: no more than it has."""
    return min(g, many + 1)


def strength(town, tour):
    """The greatest g, up to the number of its legs, for which a round is sure; None if not for 0."""
    check_round(town, tour)
    return strength_of(town, tour)


def strength_of(town, tour):
    """The same, for what surely is a round of a town."""
    many = len(tour) + 1
    rows = worst_table(town, tour, many)
    latest = latest_begins(town, tour)
    sure = [g for g in range(many + 1) if all([row[g] <= last for row, last in zip(rows, latest)])]
    return max(sure, default=None)
