"""Plans of sure rounds, their least costs, and the staircase of these over the budget."""

from latebyfew.errors import BadBudget, BadPlan
from latebyfew.labels import check_count, check_town_and_budget
from latebyfew.rounds import are_ascending_places, cost_of, is_tour, rounds
from latebyfew.sure import check_budget, is_enough, is_sure, judge_sure, strength_of, useful_budget
from latebyfew.towns import check_town
from latebyfew.values import is_ascending, is_at_most, is_count, is_integer, is_integer_or_none
from latebyfew.values import least_number, sum_or_none


def is_plan(town, thing):
    """Whether any value is a plan of the town."""
    check_town(town)
    return is_tour_row(town, thing)


def is_tour_row(town, thing):
    """The same, for what surely is a town."""
    if not isinstance(thing, tuple) or not all([is_tour(town, tour) for tour in thing]) or not is_ascending(thing):
        return False
    return sorted([place for tour in thing for place in tour]) == list(all_places(town))


def all_places(town):
    """The ascending tuple of all places."""
    return tuple(range(1, len(town[0]) + 1))


def check_plan(town, plan):
    """Raise BadPlan if the value is not a plan of the town."""
    if not is_tour_row(town, plan):
        raise BadPlan(plan)


def plan_cost(town, plan):
    """The sum of the costs of the rounds of a plan."""
    check_town(town)
    check_plan(town, plan)
    return cost_of_plan(town, plan)


def cost_of_plan(town, plan):
    """The same, for what surely is a plan of a town."""
    return sum([cost_of(town, tour) for tour in plan])


def is_sure_plan(town, g, plan):
    """Whether each round of a plan is sure for g."""
    return plan_attack(town, g, plan) is None


def plan_attack(town, g, plan):
    """The position of the first round of a plan that is not sure for g, and an attack on it; None if all are."""
    check_town_and_budget(town, g)
    check_plan(town, plan)
    for at, tour in enumerate(plan):
        found = judge_sure(town, tour, useful_budget(len(tour), g))
        if found[0] == "attack":
            return (at, found[1], found[2])
    return None


def strengths(town):
    """The rounds of a town, each one with its strength."""
    return [(tour, strength_of(town, tour)) for tour in rounds(town)]


def cheapest_rounds(town, strong, g):
    """For each set of places a cheapest round with just these that is sure for g, as a pair (cost, round)."""
    found = {}
    for tour, most in strong:
        if is_enough(most, tour, g):
            served = tuple(sorted(tour))
            pair = (cost_of(town, tour), tour)
            found[served] = min(found.get(served, pair), pair)
    return found


def place_sets(town):
    """The ascending list of all ascending tuples of places."""
    found = [()]
    for place in all_places(town):
        found = found + [chosen + (place,) for chosen in found]
    return sorted(found)


def splits(cheapest, places):
    """The cheapest rounds that serve the least of the places within them, each one with the other places."""
    found = []
    for served, pair in cheapest.items():
        if served[0] == places[0] and all([place in places for place in served]):
            found.append((pair, tuple([place for place in places if place not in served])))
    return found


def splits_of_sets(town, cheapest):
    """The splits of each set of places but the empty one."""
    return {places: splits(cheapest, places) for places in place_sets(town) if len(places) > 0}


def least_sum(bounds, parted, number):
    """The least cost of a round and the bound of the other places with one van fewer; None if there is none."""
    return least_number([sum_or_none(pair[0], bounds[(rest, number - 1)]) for pair, rest in parted])


def least_bounds(town, cheapest, vans):
    """The greatest bounds by sets of places and numbers of vans, which are the least costs."""
    parted = splits_of_sets(town, cheapest)
    bounds = {((), number): 0 for number in range(vans + 1)}
    for number in range(vans + 1):
        for places in parted:
            bounds[(places, number)] = least_sum(bounds, parted[places], number) if number > 0 else None
    return bounds


def judge_plan(town, g, vans):
    """A cheapest plan of at most that many rounds that are sure for g, or that there is none, with a table."""
    check_town_and_budget(town, g)
    check_count(vans)
    cheapest = cheapest_rounds(town, strengths(town), g)
    bounds = least_bounds(town, cheapest, vans)
    table = tuple([(places, number, bounds[(places, number)])
                   for places in place_sets(town) for number in range(vans + 1)])
    if bounds[(all_places(town), vans)] is None:
        return ("none", table)
    return ("plan", plan_by(bounds, cheapest, all_places(town), vans), table)


def plan_by(bounds, cheapest, places, vans):
    """A plan whose cost is the bound of the places and the number of vans."""
    found = []
    left = places
    number = vans
    while left:
        for pair, rest in splits(cheapest, left):
            if sum_or_none(pair[0], bounds[(rest, number - 1)]) == bounds[(left, number)]:
                found.append(pair[1])
                left = rest
                number -= 1
                break
    return tuple(sorted(found))


def plan_holds(town, g, vans, thing):
    """Whether any value is a certificate of a cheapest plan, or that there is none."""
    check_town_and_budget(town, g)
    check_count(vans)
    if not isinstance(thing, tuple) or len(thing) not in (2, 3) or not is_bound_row(town, vans, thing[-1]):
        return False
    bounds = {(places, number): bound for places, number, bound in thing[-1]}
    if not are_bounds(town, g, vans, bounds):
        return False
    least = bounds[(all_places(town), vans)]
    if len(thing) == 2:
        return thing[0] == "none" and least is None
    return thing[0] == "plan" and is_plan_of_cost(town, g, vans, thing[1], least)


def is_plan_of_cost(town, g, vans, thing, least):
    """Whether any value is a plan of at most that many rounds, sure for g, with that cost."""
    if not is_tour_row(town, thing) or len(thing) > vans:
        return False
    return all([is_sure(town, tour, g) for tour in thing]) and cost_of_plan(town, thing) == least


def is_bound_row(town, vans, thing):
    """Whether any value has the form of a table of bounds."""
    places = place_sets(town)
    if not isinstance(thing, tuple) or len(thing) != len(places) * (vans + 1):
        return False
    if not all([is_bound(town, triple) for triple in thing]):
        return False
    return [triple[:2] for triple in thing] == [(chosen, number) for chosen in places for number in range(vans + 1)]


def is_bound(town, thing):
    """Whether any value is a triple of places, a number of vans and a bound."""
    if not isinstance(thing, tuple) or len(thing) != 3:
        return False
    return are_ascending_places(town, thing[0]) and is_count(thing[1]) and is_integer_or_none(thing[2])


def are_bounds(town, g, vans, bounds):
    """Whether the bounds of a table are not above what they may be at most."""
    if not all([bounds[((), number)] == 0 for number in range(vans + 1)]):
        return False
    parted = splits_of_sets(town, cheapest_rounds(town, strengths(town), g))
    for places in parted:
        for number in range(1, vans + 1):
            if not is_at_most(bounds[(places, number)], least_sum(bounds, parted[places], number)):
                return False
    return True


def staircase(town, vans):
    """The tuple of the least costs of sure plans for g from 0 to the number of places plus 1; None for no plan."""
    check_town(town)
    check_count(vans)
    places = all_places(town)
    # No plan has more rounds than there are places.
    many = min(vans, len(places))
    strong = strengths(town)
    steps = range(len(places) + 2)
    return tuple([least_bounds(town, cheapest_rounds(town, strong, g), many)[(places, many)] for g in steps])


def sureness(town, vans, g, h):
    """How much more the least cost is for the budget h than for g; None if there is no plan for one of them."""
    check_town(town)
    check_count(vans)
    check_budget(g)
    if not is_integer(h) or h < g:
        raise BadBudget(h)
    steps = staircase(town, vans)
    low = steps[min(g, len(steps) - 1)]
    high = steps[min(h, len(steps) - 1)]
    return None if low is None or high is None else high - low
