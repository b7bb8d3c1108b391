"""How much later a sure round could be without breaking a stop: its legs, its start and its stops."""

from latebyfew.errors import BadNumber, NotSure
from latebyfew.rounds import latest_begins, legs_of
from latebyfew.sure import check_round_and_budget, depot_row, is_enough, service_of, strength_of
from latebyfew.sure import useful_budget, worst_table
from latebyfew.towns import LONGEST, USUAL
from latebyfew.values import is_count


def check_sure(town, tour, g):
    """Raise BadTown, BadRound, BadBudget, or NotSure for a round that is not sure for g."""
    check_round_and_budget(town, tour, g)
    if not is_enough(strength_of(town, tour), tour, g):
        raise NotSure(tour)


def latest_leaves(leg, row):
    """When the start of a leg can be left at the latest, for 0 to g late legs from there on.

    The row has the latest begins at the end of the leg, for as many late legs behind it.
    """
    found = [begin - leg[USUAL] for begin in row]
    for j in range(1, len(row)):
        found[j] = min(found[j], row[j - 1] - leg[LONGEST])
    return found


def latest_table(town, tour, g):
    """For each stop the latest begins that break no stop from there on, for 0 to g late legs behind it.

    It holds for rounds that are sure for g: no stop opens after the latest begin there.
    """
    legs = legs_of(town, tour)
    latest = latest_begins(town, tour)
    row = [latest[-1]] * (g + 1)
    rows = [row]
    for stop in range(len(tour) - 1, -1, -1):
        service = service_of(town, tour[stop])
        row = [min(latest[stop], leave - service) for leave in latest_leaves(legs[stop + 1], row)]
        rows.append(row)
    return list(reversed(rows))


def leg_room(town, tour, g, at):
    """The greatest longest time of a leg with which the round is still sure for g; None if there is none."""
    check_sure(town, tour, g)
    if not is_count(at) or at > len(tour):
        raise BadNumber(at)
    if g == 0:
        return None
    many = useful_budget(len(tour), g)
    before = worst_table(town, tour, many)[at - 1] if at > 0 else depot_row(many)
    latest = latest_table(town, tour, many)[at]
    # The leg itself is late: one less is left for the others.
    return least_gap(before[:-1], latest[:-1]) - service_of(town, legs_of(town, tour)[at][0])


def latest_start(town, tour, g):
    """The latest time at which the depot can be left such that the round is still sure for g."""
    check_sure(town, tour, g)
    many = useful_budget(len(tour), g)
    return latest_leaves(legs_of(town, tour)[0], latest_table(town, tour, many)[0])[many]


def floats(town, tour, g):
    """The tuple of how much the begin at each stop can be put off such that the round is still sure for g."""
    check_sure(town, tour, g)
    many = useful_budget(len(tour), g)
    worst = worst_table(town, tour, many)
    latest = latest_table(town, tour, many)
    return tuple([least_gap(worst[stop], latest[stop]) for stop in range(len(worst))])


def least_gap(worst, latest):
    """The least time from a begin to the latest one; the late legs that the begin leaves over come behind it."""
    return min([latest[-1 - j] - begin for j, begin in enumerate(worst)])
