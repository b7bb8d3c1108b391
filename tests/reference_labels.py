"""Labels, closed tables and plans by the words of the document, for the tests to compare with."""

from itertools import combinations, permutations

from latebyfew.rounds import rounds
from reference import attacks


def leg_rows(town):
    return {leg[:2]: leg for leg in town[1]}


def all_paths(town):
    """All rows of unlike places whose legs are listed, the way home aside."""
    legs = leg_rows(town)
    places = range(1, len(town[0]) + 1)
    rows = [path for many in places for path in permutations(places, many)]
    return [path for path in rows if all(ends in legs for ends in zip((0, *path), path))]


def begins_along(town, path, late, start=0):
    """The begins at the places of a path if just these legs take their longest time."""
    legs = leg_rows(town)
    found = []
    clock = start
    for at, ends in enumerate(zip((0, *path), path)):
        opening, _, service, *_ = town[0][ends[1] - 1]
        clock = max(opening, clock + legs[ends][3 if at in late else 2])
        found.append(clock)
        clock += service
    return found


def greatest_load(town, path):
    """The greatest load of a path, as if it ended at its last place."""
    rows = [town[0][place - 1] for place in path]
    return max(sum(row[4] for row in rows[:k]) + sum(row[3] for row in rows[k:]) for k in range(len(rows) + 1))


def label_by_days(town, g, prices, path):
    """The label of a path over all choices of late legs; None if it is not open."""
    legs = leg_rows(town)
    times = []
    for j in range(g + 1):
        choices = [late for many in range(j + 1) for late in combinations(range(len(path)), many)]
        begun = [begins_along(town, path, late) for late in choices]
        if any(begin > town[0][place - 1][1] for row in begun for place, begin in zip(path, row)):
            return None
        times.append(max(row[-1] for row in begun))
    load = greatest_load(town, path)
    if load > town[3]:
        return None
    rows = [town[0][place - 1] for place in path]
    cost = sum(legs[ends][4] for ends in zip((0, *path), path)) - sum(prices[place - 1] for place in path)
    return (path[-1], tuple(sorted(path)), tuple(times), sum(row[4] for row in rows), load, cost)


def extended_by_words(town, label, place, gain):
    """The label one leg further, by the numbers of [7.2]; None if it is not open."""
    last, visited, times, fetched, load, cost = label
    legs = leg_rows(town)
    if place in visited or (last, place) not in legs:
        return None
    _, _, usual, longest, _ = legs[(last, place)]
    opening, shut, _, bring, fetch, _ = town[0][place - 1]
    service = town[0][last - 1][2] if last else 0
    further = []
    for j, time in enumerate(times):
        sums = [opening, time + service + usual]
        if j > 0:
            sums.append(times[j - 1] + service + longest)
        further.append(max(sums))
    load = max(load + bring, fetched + fetch)
    if further[-1] > shut or load > town[3]:
        return None
    return (place, tuple(sorted({*visited, place})), tuple(further), fetched + fetch, load, cost + gain)


def closed_by_words(town, label):
    """The closed cost of a label by [7.2]; None if it cannot be closed."""
    last, _, times, _, _, cost = label
    leg = leg_rows(town).get((last, 0))
    if leg is None:
        return None
    ready = [time + town[0][last - 1][2] for time in times]
    arrivals = [ready[-1] + leg[2]] + ([ready[-2] + leg[3]] if len(times) > 1 else [])
    return cost + leg[4] if max(arrivals) <= town[2] else None


def dominates_by_words(one, other):
    return (one[0] == other[0] and set(one[1]) <= set(other[1]) and all(a <= b for a, b in zip(one[2], other[2]))
            and all(a <= b for a, b in zip(one[3:], other[3:])))


def is_closed_by_words(town, g, prices, table):
    """Whether a tuple of labels is a closed table."""
    legs = leg_rows(town)
    places = range(1, len(town[0]) + 1)
    needed = []
    for label in ((0, (), (0,) * (g + 1), 0, 0, 0), *table):
        for place in places:
            if (label[0], place) in legs:
                needed.append(extended_by_words(town, label, place, legs[(label[0], place)][4] - prices[place - 1]))
    return all(any(dominates_by_words(one, label) for one in table) for label in needed if label is not None)


def reduced(town, prices, tour):
    legs = leg_rows(town)
    return sum(legs[ends][4] for ends in zip((0, *tour), (*tour, 0))) - sum(prices[place - 1] for place in tour)


def is_least_by_words(town, g, prices, thing):
    """Whether a certificate whose table is one of labels is right."""
    table = thing[-1]
    closed = [cost for cost in (closed_by_words(town, label) for label in table) if cost is not None]
    if not is_closed_by_words(town, g, prices, table):
        return False
    if thing[0] == "none":
        return not closed
    tour = thing[1]
    return (tour in rounds(town) and not attacks(town, tour, g)
            and all(cost >= reduced(town, prices, tour) for cost in closed))


def sure_costs(town, g):
    """The sure rounds of a town and their costs."""
    return {tour: reduced(town, (0,) * len(town[0]), tour) for tour in rounds(town) if not attacks(town, tour, g)}


def sure_plans(town, costs, left=None):
    """All plans of sure rounds, as ascending tuples."""
    left = tuple(range(1, len(town[0]) + 1)) if left is None else left
    if not left:
        return [()]
    found = []
    for tour in costs:
        if left[0] in tour and set(tour) <= set(left):
            rest = tuple(place for place in left if place not in tour)
            found += [tuple(sorted((tour, *plan))) for plan in sure_plans(town, costs, rest)]
    return found


def least_plan_cost(town, g, vans):
    """The least cost of a sure plan of at most that many rounds; None if there is none."""
    costs = sure_costs(town, g)
    plans = [plan for plan in sure_plans(town, costs) if len(plan) <= vans]
    return min((sum(costs[tour] for tour in plan) for plan in plans), default=None)


def are_bounds_by_words(town, g, table):
    """Whether a table of triples in the right order, one for each places and number, is one of bounds."""
    costs = sure_costs(town, g)
    bounds = {triple[:2]: triple[2] for triple in table}
    for (places, number), bound in bounds.items():
        if not places and bound != 0:
            return False
        if not places or number == 0:
            continue
        for tour, cost in costs.items():
            if places[0] in tour and set(tour) <= set(places):
                rest = bounds[(tuple(place for place in places if place not in tour), number - 1)]
                if rest is not None and (bound is None or bound > cost + rest):
                    return False
    return True


def is_plan_certificate_by_words(town, g, vans, thing):
    """Whether a certificate with a table of triples in the right order is right."""
    table = thing[-1]
    bound = {triple[:2]: triple[2] for triple in table}[(tuple(range(1, len(town[0]) + 1)), vans)]
    if not are_bounds_by_words(town, g, table):
        return False
    if thing[0] == "none":
        return bound is None
    costs = sure_costs(town, g)
    plan = thing[1]
    return plan in sure_plans(town, costs) and len(plan) <= vans and sum(costs[tour] for tour in plan) == bound
