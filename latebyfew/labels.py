"""Labels of paths under prices, and the least reduced cost of a sure round."""

from latebyfew.errors import BadLabel, BadNumber, BadPath, BadPlace, BadPrices
from latebyfew.growth import Growth, dominates, is_label_row
from latebyfew.rounds import are_listed, are_unlike_places, cost_of, ends_of, is_tour
from latebyfew.sure import check_budget, depot_row, is_sure, useful_budget
from latebyfew.towns import COST, check_town
from latebyfew.values import is_count, is_integer


def check_town_and_budget(town, g):
    """Raise BadTown or BadBudget for the first argument that is none."""
    check_town(town)
    check_budget(g)


def check_prices(town, prices):
    """Raise BadPrices if the value is not a tuple with an integer for each place."""
    if not isinstance(prices, tuple) or len(prices) != len(town[0]) or not all([is_integer(part) for part in prices]):
        raise BadPrices(prices)


def check_label(town, g, label):
    """Raise BadLabel if the value has not the form of a label."""
    if not is_label_row(town, g, label):
        raise BadLabel(label)


def check_count(number):
    """Raise BadNumber if the value is not an integer from 0 on."""
    if not is_count(number):
        raise BadNumber(number)


def is_path(town, thing):
    """Whether any value is a path of the town."""
    check_town(town)
    return is_listed_path(town, thing)


def is_listed_path(town, thing):
    """The same, for what surely is a town."""
    return are_unlike_places(town, thing) and len(thing) > 0 and are_listed(town, ends_of(thing)[:-1])


def growth_of(town, g, prices):
    """How labels grow from the depot, by the costs of the legs less the prices of the places at their ends."""
    # What comes home has no price.
    worth = (0,) + prices
    added = {leg[:2]: leg[COST] - worth[leg[1]] for leg in town[1]}
    return Growth(town, (0, (), depot_row(g), 0, 0, 0), added, False)


def reduced_cost(town, prices, tour):
    """The cost of a round less the prices of its places."""
    return cost_of(town, tour) - sum([prices[place - 1] for place in tour])


def label_of(town, g, prices, path):
    """The label of a path; None if it is not open."""
    check_town_and_budget(town, g)
    check_prices(town, prices)
    if not is_listed_path(town, path):
        raise BadPath(path)
    return growth_of(town, g, prices).along(path)


def is_label(town, g, thing):
    """Whether any value has the form of a label."""
    check_town_and_budget(town, g)
    return is_label_row(town, g, thing)


def extended(town, g, prices, label, place):
    """The label with a further place; None if it is visited, no leg leads to it, or the extension is not open."""
    check_town_and_budget(town, g)
    check_prices(town, prices)
    check_label(town, g, label)
    if not are_unlike_places(town, (place,)):
        raise BadPlace(place)
    return growth_of(town, g, prices).longer(label, place)


def closed_cost(town, g, label):
    """The cost of a label with its way home; None if it cannot be closed."""
    check_town_and_budget(town, g)
    check_label(town, g, label)
    return growth_of(town, g, (0,) * len(town[0])).closed(label)


def does_dominate(town, g, one, other):
    """Whether one label dominates the other one."""
    check_town_and_budget(town, g)
    check_label(town, g, one)
    check_label(town, g, other)
    return dominates(one, other)


def judge_least(town, g, prices):
    """A sure round of the least reduced cost, or that there is none, with a closed table that shows it."""
    check_town_and_budget(town, g)
    check_prices(town, prices)
    growth = growth_of(town, g, prices)
    found = growth.grown()
    table = tuple([label for label, _ in found])
    least = growth.least_closed(found)
    return ("none", table) if least is None else ("least", least[1], table)


def least_holds(town, g, prices, thing):
    """Whether any value is a certificate of the least reduced cost, or that no round is sure."""
    check_town_and_budget(town, g)
    check_prices(town, prices)
    if not isinstance(thing, tuple):
        return False
    growth = growth_of(town, g, prices)
    if len(thing) == 2 and thing[0] == "none":
        return is_closed_table(town, g, growth, thing[1]) and growth.closed_ones(thing[1]) == []
    if len(thing) != 3 or thing[0] != "least":
        return False
    if not is_tour(town, thing[1]) or not is_sure(town, thing[1], g) or not is_closed_table(town, g, growth, thing[2]):
        return False
    least = reduced_cost(town, prices, thing[1])
    return all([number >= least for number in growth.closed_ones(thing[2])])


def is_closed_table(town, g, growth, thing):
    """Whether any value is a closed table."""
    if not isinstance(thing, tuple) or not all([is_label_row(town, g, label) for label in thing]):
        return False
    return growth.is_closed(thing)


def price_bound(town, g, vans, prices):
    """What each plan of at most that many rounds that are sure for g costs at least, by prices."""
    check_town_and_budget(town, g)
    check_count(vans)
    check_prices(town, prices)
    if len(prices) == 0:
        return 0
    growth = growth_of(town, useful_budget(len(prices), g), prices)
    least = growth.least_closed(growth.grown())
    return None if least is None else sum(prices) + vans * min(0, least[0])
