"""The day as a game, by a plain game tree and by the words on its tables, for the tests to compare with."""

from functools import lru_cache
from itertools import combinations, permutations

NEVER = float("inf")


@lru_cache(None)
def leg_rows(town):
    return {leg[:2]: leg for leg in town[1]}


def moves_by_words(town, position):
    place, _, _, wishes = position
    legs = leg_rows(town)
    found = [wish for wish in wishes if (place, wish) in legs]
    return tuple(([0] if place == 0 or (place, 0) in legs else []) + found)


def answers_by_words(position, move):
    if position[0] == 0 and move == 0:
        return ("",)
    return ("usual", "late") if position[2] else ("usual",)


def results(town, position, move, answer):
    """What can come of a move and its answer: None if the day is lost, else {deed: (paid, position or None)}."""
    place, ready, budget, wishes = position
    penalties = sum(town[0][wish - 1][5] for wish in wishes)
    if answer == "":
        return {"": (penalties, None)}
    _, _, usual, longest, cost = leg_rows(town)[(place, move)]
    arrival = ready + (longest if answer == "late" else usual)
    if move == 0:
        return {"": (cost + penalties, None)} if arrival <= town[2] else None
    opening, shut, service, _, _, penalty = town[0][move - 1]
    rest = tuple(sorted({*wishes} - {move}))
    left = budget - (answer == "late")
    found = {"pass": (cost + penalty, (move, arrival, left, rest))}
    if arrival <= shut:
        found["serve"] = (cost, (move, max(opening, arrival) + service, left, rest))
    return found


@lru_cache(None)
def tree_value(town, position):
    """The value by the whole tree; NEVER for None."""
    best = NEVER
    for move in moves_by_words(town, position):
        worst = 0
        for answer in answers_by_words(position, move):
            found = results(town, position, move, answer)
            sums = [NEVER] if found is None else [
                paid + (0 if after is None else tree_value(town, after)) for paid, after in found.values()]
            worst = max(worst, min(sums))
        best = min(best, worst)
    return best


def value_by_tree(town, position):
    found = tree_value(town, position)
    return None if found == NEVER else found


def all_positions(town, start):
    """All positions that can come up, ascending."""
    found = {start}
    waiting = [start]
    while waiting:
        position = waiting.pop()
        for move in moves_by_words(town, position):
            for answer in answers_by_words(position, move):
                for _, after in (results(town, position, move, answer) or {}).values():
                    if after is not None and after not in found:
                        found.add(after)
                        waiting.append(after)
    return sorted(found)


def is_driver_by_words(town, table):
    """Whether rows (position, integer, integer, tuple), ascending by positions, are a driver's table."""
    bounds = {row[0]: row[1] for row in table}
    for position, bound, move, deeds in table:
        if move not in moves_by_words(town, position):
            return False
        answers = answers_by_words(position, move)
        if len(deeds) != (len(answers) if move else 0):
            return False
        for k, answer in enumerate(answers):
            found = results(town, position, move, answer)
            deed = deeds[k] if move else ""
            if found is None or deed not in found:
                return False
            paid, after = found[deed]
            if after is not None and after not in bounds or bound < paid + (0 if after is None else bounds[after]):
                return False
    return True


def is_foe_by_words(town, table):
    """Whether rows (position, integer or None, tuple of pairs), ascending by positions, are a foe's table."""
    bounds = {row[0]: NEVER if row[1] is None else row[1] for row in table}
    for position, _, answers in table:
        if tuple(move for move, _ in answers) != moves_by_words(town, position):
            return False
        for move, answer in answers:
            if answer not in answers_by_words(position, move):
                return False
            for paid, after in (results(town, position, move, answer) or {}).values():
                if after is not None and after not in bounds:
                    return False
                if bounds[position] > paid + (0 if after is None else bounds[after]):
                    return False
    return True


def all_wishes(town):
    places = range(1, len(town[0]) + 1)
    return [wishes for many in range(len(town[0]) + 1) for wishes in combinations(places, many)]


def standing_ends(place, order):
    """The ends of the legs of an order from a place."""
    return [] if place == 0 and not order else list(zip((place, *order), (*order, 0)))


def orders_by_words(town, standing):
    """All orders of a standing."""
    legs = leg_rows(town)
    orders = permutations(standing[4])
    return [order for order in orders if all(ends in legs for ends in standing_ends(standing[0], order))]


def is_sure_by_words(town, standing, order):
    """Whether an order is sure, over all choices of late legs."""
    place, ready, budget, fetched, _ = standing
    legs = leg_rows(town)
    rows = [town[0][stop - 1] for stop in order]
    for k in range(len(order) + 1):
        if fetched + sum(row[4] for row in rows[:k]) + sum(row[3] for row in rows[k:]) > town[3]:
            return False
    ends = standing_ends(place, order)
    for many in range(min(budget, len(ends)) + 1):
        for late in combinations(range(len(ends)), many):
            clock = ready
            for at, pair in enumerate(ends):
                clock += legs[pair][3 if at in late else 2]
                opening, shut, service, *_ = rows[at] if pair[1] else (0, town[2], 0)
                clock = max(clock, opening)
                if clock > shut:
                    return False
                clock += service
    return True


def weight_by_words(town, standing, order):
    """8 times the cost of the legs, and 1 for each one that was not planned."""
    legs = leg_rows(town)
    planned = standing_ends(standing[0], standing[4])
    ends = standing_ends(standing[0], order)
    return 8 * sum(legs[pair][4] for pair in ends) + sum(pair not in planned for pair in ends)
