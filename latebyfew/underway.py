"""Rounds under way: the best order of the places that are still to be served."""

from latebyfew.errors import BadOrder, BadStanding
from latebyfew.growth import VISITED, Growth, is_label_row
from latebyfew.rounds import are_listed, are_unlike_places, latest_begins, loads_of
from latebyfew.sure import next_row, service_of, useful_budget
from latebyfew.towns import COST, check_town, legs_by_ends
from latebyfew.values import is_count


def is_standing(town, thing):
    """Whether any value is a standing of the town."""
    check_town(town)
    return is_standing_row(town, thing)


def is_standing_row(town, thing):
    """The same, for what surely is a town."""
    if not isinstance(thing, tuple) or len(thing) != 5 or not all([is_count(part) for part in thing[:4]]):
        return False
    place, left = thing[0], thing[4]
    return place <= len(town[0]) and are_unlike_places(town, left) and place not in left


def check_standing(town, standing):
    """Raise BadTown or BadStanding for the first argument that is none."""
    check_town(town)
    if not is_standing_row(town, standing):
        raise BadStanding(standing)


def ends_from(place, order):
    """The ends of the legs of an order from a place; a van at the depot with nothing left drives none."""
    return [] if place == 0 and order == () else list(zip((place,) + order, order + (0,)))


def begins_from(town, place, ready, budget):
    """Begins at a place, for 0 to budget late legs, from which the van can leave at ready after the service."""
    return (ready - service_of(town, place),) * (budget + 1)


def weights_of(town, standing):
    """The weights of the legs by their ends: 8 times the cost, and 1 more if the leg was not planned."""
    planned = ends_from(standing[0], standing[4])
    return {leg[:2]: 8 * leg[COST] + int(leg[:2] not in planned) for leg in town[1]}


def is_order(town, standing, thing):
    """Whether any value is an order of the standing."""
    place, left = standing[0], standing[4]
    if not are_unlike_places(town, thing) or sorted(thing) != sorted(left):
        return False
    return are_listed(town, ends_from(place, thing))


def is_sure_order(town, standing, thing):
    """Whether any value is an order of the standing that is sure."""
    check_standing(town, standing)
    return is_sure_rest(town, standing, thing)


def is_sure_rest(town, standing, thing):
    """The same, for what surely are a town and a standing of it."""
    if not is_order(town, standing, thing):
        return False
    place, ready, budget, fetched, _ = standing
    if fetched + max(loads_of(town, thing)) > town[3]:
        return False
    legs = legs_by_ends(town)
    latest = latest_begins(town, thing)
    row = begins_from(town, place, ready, useful_budget(len(thing), budget))
    for stop, ends in enumerate(ends_from(place, thing)):
        row = next_row(town, legs[ends], row)
        if row[-1] > latest[stop]:
            return False
    return True


def weight_of(town, standing, order):
    """The weight of an order."""
    check_standing(town, standing)
    if not is_order(town, standing, order):
        raise BadOrder(order)
    return weight_by(town, standing, order)


def weight_by(town, standing, order):
    """The same, for what surely is an order."""
    weights = weights_of(town, standing)
    return sum([weights[ends] for ends in ends_from(standing[0], order)])


def growth_under_way(town, standing):
    """How labels grow from the standing, by the weights of the legs to the places that are left."""
    place, ready, budget, fetched, left = standing
    weights = weights_of(town, standing)
    added = {ends: weights[ends] for ends in weights if ends[1] == 0 or ends[1] in left}
    return Growth(town, (place, (), begins_from(town, place, ready, budget), fetched, fetched, 0), added, True)


def judge_rest(town, standing):
    """The best order that is sure, or that there is none, with a closed table that shows it."""
    check_standing(town, standing)
    if standing[4] == ():
        return judge_nothing_left(town, standing)
    growth = growth_under_way(town, standing)
    found = growth.grown()
    table = tuple([label for label, _ in found])
    least = growth.least_closed([pair for pair in found if is_whole(standing, pair[0])])
    return ("none", table) if least is None else ("order", least[1], table)


def judge_nothing_left(town, standing):
    """The only certificate if no place is left."""
    return ("order", (), ()) if is_sure_rest(town, standing, ()) else ("none", ())


def is_whole(standing, label):
    """Whether the visited places of a label are all that are left."""
    return len(label[VISITED]) == len(standing[4])


def rest_holds(town, standing, thing):
    """Whether any value is a certificate of the best order, or that there is none."""
    check_standing(town, standing)
    if not isinstance(thing, tuple):
        return False
    if standing[4] == ():
        return thing == judge_nothing_left(town, standing)
    if len(thing) == 2 and thing[0] == "none":
        return is_rest_table(town, standing, thing[1]) and ending_weights(town, standing, thing[1]) == []
    if len(thing) != 3 or thing[0] != "order" or not is_sure_rest(town, standing, thing[1]):
        return False
    if not is_rest_table(town, standing, thing[2]):
        return False
    least = weight_by(town, standing, thing[1])
    return all([weight >= least for weight in ending_weights(town, standing, thing[2])])


def is_rest_table(town, standing, thing):
    """Whether any value is a closed table for the standing."""
    budget, left = standing[2], standing[4]
    if not isinstance(thing, tuple) or not all([is_label_row(town, budget, label) for label in thing]):
        return False
    if not all([place in left for label in thing for place in label[VISITED]]):
        return False
    return growth_under_way(town, standing).is_closed(thing)


def ending_weights(town, standing, table):
    """The closed weights of the labels of a table that end."""
    growth = growth_under_way(town, standing)
    return growth.closed_ones([label for label in table if is_whole(standing, label)])
