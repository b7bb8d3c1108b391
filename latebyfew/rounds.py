"""Rounds of a town, and days on which they are driven."""

from latebyfew.errors import BadDay, BadRound
from latebyfew.towns import BRING, COST, FETCH, LONGEST, OPEN, SERVICE, SHUT, USUAL
from latebyfew.towns import check_town, legs_by_ends, place_row
from latebyfew.values import is_ascending, is_integer


def is_round(town, thing):
    """Whether any value is a round of the town."""
    check_town(town)
    return is_tour(town, thing)


def is_tour(town, thing):
    """The same, for what surely is a town."""
    if not are_unlike_places(town, thing) or len(thing) == 0:
        return False
    return are_listed(town, ends_of(thing)) and fits(town, thing)


def are_listed(town, rows):
    """Whether the town has legs with all these ends."""
    legs = legs_by_ends(town)
    return all([ends in legs for ends in rows])


def are_unlike_places(town, thing):
    """Whether any value is a tuple of different places of the town."""
    many = len(town[0])
    if not isinstance(thing, tuple) or not all([is_integer(p) and 1 <= p <= many for p in thing]):
        return False
    return len(set(thing)) == len(thing)


def are_ascending_places(town, thing):
    """Whether any value is an ascending tuple of places of the town."""
    return are_unlike_places(town, thing) and is_ascending(thing)


def ends_of(tour):
    """The ends of the legs of a round, in order."""
    return list(zip((0,) + tour, tour + (0,)))


def legs_of(town, tour):
    """The rows of the legs of a round, in order."""
    legs = legs_by_ends(town)
    return [legs[ends] for ends in ends_of(tour)]


def loads_of(town, tour):
    """The load at the beginning and the loads after each place."""
    rows = [place_row(town, place) for place in tour]
    load = sum([row[BRING] for row in rows])
    found = [load]
    for row in rows:
        load += row[FETCH] - row[BRING]
        found.append(load)
    return tuple(found)


def fits(town, tour):
    """Whether the loads of a row of places are never above the room."""
    return max(loads_of(town, tour)) <= town[3]


def check_round(town, tour):
    """Raise BadTown or BadRound if town is not a town, or tour not a round of it."""
    check_town(town)
    if not is_tour(town, tour):
        raise BadRound(tour)


def rounds(town):
    """The ascending tuple of all rounds of a town."""
    check_town(town)
    return tuple(rounds_from(town, legs_by_ends(town), ()))


def rounds_from(town, legs, path):
    """The ascending list of the rounds that begin with the places of path."""
    found = []
    last = path[-1] if path else 0
    # No leg leads from the depot to itself, so the empty path is never taken.
    if (last, 0) in legs:
        found.append(path)
    for place in range(1, len(town[0]) + 1):
        longer = path + (place,)
        # A place at the end makes no load less: what does not fit never will.
        if place not in path and (last, place) in legs and fits(town, longer):
            found.extend(rounds_from(town, legs, longer))
    return found


def cost(town, tour):
    """The sum of the costs of the legs of a round."""
    check_round(town, tour)
    return cost_of(town, tour)


def cost_of(town, tour):
    """The same, for what surely is a round of a town."""
    return sum([leg[COST] for leg in legs_of(town, tour)])


def loads(town, tour):
    """The load at the beginning of a round and the loads after each place."""
    check_round(town, tour)
    return loads_of(town, tour)


def is_day(town, tour, thing):
    """Whether any value is a day of the round."""
    check_round(town, tour)
    return is_time_row(legs_of(town, tour), thing)


def is_time_row(legs, thing):
    """Whether any value is a tuple of times that these legs can take."""
    if not isinstance(thing, tuple) or len(thing) != len(legs):
        return False
    return all([is_integer(time) and leg[USUAL] <= time <= leg[LONGEST] for leg, time in zip(legs, thing)])


def check_day(town, tour, day):
    """Raise BadTown, BadRound or BadDay for the first argument that is none."""
    check_round(town, tour)
    if not is_time_row(legs_of(town, tour), day):
        raise BadDay(day)


def begins(town, tour, day):
    """The tuple of the begins at the stops of a round on a day."""
    check_day(town, tour, day)
    return begins_of(town, tour, day)


def begins_of(town, tour, day):
    """The same, for what surely is a day of a round of a town."""
    found = []
    ready = 0
    for place, time in zip(tour, day):
        row = place_row(town, place)
        begin = max(row[OPEN], ready + time)
        found.append(begin)
        ready = begin + row[SERVICE]
    return tuple(found + [ready + day[-1]])


def latest_begins(town, tour):
    """The greatest begin at each stop that does not break it."""
    return [place_row(town, place)[SHUT] for place in tour] + [town[2]]


def broken(town, tour, day):
    """The ascending tuple of the stops that are broken on a day."""
    check_day(town, tour, day)
    found = begins_of(town, tour, day)
    latest = latest_begins(town, tour)
    return tuple([stop for stop in range(len(found)) if found[stop] > latest[stop]])


def late_legs(town, tour, day):
    """The ascending tuple of the positions of the late legs of a day."""
    check_day(town, tour, day)
    legs = legs_of(town, tour)
    return tuple([at for at in range(len(legs)) if day[at] > legs[at][USUAL]])
