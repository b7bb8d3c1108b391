"""The day as a game of the driver and the foe, and the tables that show its value."""

from latebyfew.errors import BadMove, BadPosition, BadWishes
from latebyfew.labels import check_town_and_budget
from latebyfew.play import AFTER, DEED, PAID, Game
from latebyfew.rounds import are_ascending_places
from latebyfew.towns import check_town
from latebyfew.values import is_ascending, is_at_most, is_count, is_integer, is_integer_or_none, sum_or_none


def is_position(town, thing):
    """Whether any value is a position of the town."""
    check_town(town)
    return is_position_row(town, thing)


def is_position_row(town, thing):
    """The same, for what surely is a town."""
    if not isinstance(thing, tuple) or len(thing) != 4:
        return False
    place, ready, budget, wishes = thing
    if not is_count(place) or place > len(town[0]) or not is_count(ready) or not is_count(budget):
        return False
    return are_ascending_places(town, wishes) and place not in wishes


def check_position(town, position):
    """Raise BadTown or BadPosition for the first argument that is none."""
    check_town(town)
    if not is_position_row(town, position):
        raise BadPosition(position)


def check_beginning(town, g, wishes):
    """Raise BadTown, BadBudget or BadWishes for the first argument that is none."""
    check_town_and_budget(town, g)
    if not are_ascending_places(town, wishes):
        raise BadWishes(wishes)


def check_move(game, position, move):
    """Raise BadMove if the value is not a move of the position."""
    if not game.has_move(position, move):
        raise BadMove(move)


def beginning(g, wishes):
    """The position at which the day begins."""
    return (0, 0, g, wishes)


def moves_of(town, position):
    """The ascending tuple of the moves of a position."""
    check_position(town, position)
    return Game(town).moves(position)


def value_of(town, position):
    """The value of a position; None if it has none."""
    check_position(town, position)
    return Game(town).value(position)


def arrivals(town, position, move):
    """The arrivals for the answers that are possible; () for a van that stays."""
    check_position(town, position)
    game = Game(town)
    check_move(game, position, move)
    answers = game.answers(position, move)
    return tuple([game.arrival(position, move, answer) for answer in answers if answer != ""])


def judge_day(town, g, wishes):
    """The value of a beginning, with a driver's table and a foe's table that show it."""
    check_beginning(town, g, wishes)
    game = Game(town)
    start = beginning(g, wishes)
    return ("value", game.value(start), driver_table(game, start), foe_table(game, start))


def driver_table(game, start):
    """A driver's table, with values as bounds, of the positions that come up if the driver follows it."""
    rows = {}
    waiting = [start]
    while waiting:
        position = waiting.pop()
        move = game.best_move(position)
        found = [game.best_outcome(position, move, answer) for answer in game.answers(position, move)]
        deeds = tuple([outcome[DEED] for outcome in found if outcome[AFTER] is not None])
        rows[position] = (position, game.value(position), move, deeds)
        waiting.extend(new_positions(rows, found))
    return in_order(rows)


def foe_table(game, start):
    """A foe's table, with values as bounds, of the positions that come up if the foe follows it."""
    rows = {}
    waiting = [start]
    while waiting:
        position = waiting.pop()
        answers = tuple([(move, game.worst_answer(position, move)) for move in game.moves(position)])
        rows[position] = (position, game.value(position), answers)
        for move, answer in answers:
            waiting.extend(new_positions(rows, game.outcomes(position, move, answer)))
    return in_order(rows)


def new_positions(rows, found):
    """The positions that follow and have no row yet."""
    return [outcome[AFTER] for outcome in found if outcome[AFTER] is not None and outcome[AFTER] not in rows]


def in_order(rows):
    """The ascending tuple of rows that are kept by their positions."""
    return tuple([rows[position] for position in sorted(list(rows))])


def day_holds(town, g, wishes, thing):
    """Whether any value is a certificate for the value of a beginning."""
    check_beginning(town, g, wishes)
    if not isinstance(thing, tuple) or len(thing) != 4 or thing[0] != "value" or not is_integer(thing[1]):
        return False
    game = Game(town)
    if not is_driver_table(town, game, thing[2]) or not is_foe_table(town, game, thing[3]):
        return False
    start = beginning(g, wishes)
    return all([bounds_by_positions(table).get(start) == thing[1] for table in thing[2:]])


def driver_holds(town, thing):
    """Whether any value is a driver's table."""
    check_town(town)
    return is_driver_table(town, Game(town), thing)


def foe_holds(town, thing):
    """Whether any value is a foe's table."""
    check_town(town)
    return is_foe_table(town, Game(town), thing)


def is_row_tuple(town, thing, size):
    """Whether any value is a tuple of rows of that size, ascending by the positions at their beginnings."""
    if not isinstance(thing, tuple) or not all([isinstance(row, tuple) and len(row) == size for row in thing]):
        return False
    positions = [row[0] for row in thing]
    return all([is_position_row(town, position) for position in positions]) and is_ascending(positions)


def bounds_by_positions(table):
    """The bounds of the rows of a table by their positions."""
    return {row[0]: row[1] for row in table}


def bound_by(bounds, outcome):
    """What is paid on the whole by the bound of the position that follows."""
    return outcome[PAID] if outcome[AFTER] is None else sum_or_none(outcome[PAID], bounds[outcome[AFTER]])


def has_after(bounds, outcome):
    """Whether the position that follows is in the table, or the day is over."""
    return outcome[AFTER] is None or outcome[AFTER] in bounds


def is_driver_table(town, game, thing):
    """Whether any value is a driver's table."""
    if not is_row_tuple(town, thing, 4) or not all([is_integer(row[1]) for row in thing]):
        return False
    bounds = bounds_by_positions(thing)
    return all([is_driver_row(game, bounds, row) for row in thing])


def is_driver_row(game, bounds, row):
    """Whether a row with a position and an integer is right, by the bounds of all rows."""
    position, bound, move, deeds = row
    if not game.has_move(position, move) or not isinstance(deeds, tuple):
        return False
    answers = game.answers(position, move)
    if len(deeds) != (len(answers) if move > 0 else 0):
        return False
    for at, answer in enumerate(answers):
        outcome = game.outcome(position, move, answer, deeds[at] if move > 0 else "")
        if outcome is None or not has_after(bounds, outcome) or bound < bound_by(bounds, outcome):
            return False
    return True


def is_foe_table(town, game, thing):
    """Whether any value is a foe's table."""
    if not is_row_tuple(town, thing, 3) or not all([is_integer_or_none(row[1]) for row in thing]):
        return False
    bounds = bounds_by_positions(thing)
    return all([is_foe_row(game, bounds, row) for row in thing])


def is_foe_row(game, bounds, row):
    """Whether a row with a position and an integer or None is right, by the bounds of all rows."""
    position, bound, answers = row
    if not are_answers(game, position, answers):
        return False
    for move, answer in answers:
        for outcome in game.outcomes(position, move, answer):
            if not has_after(bounds, outcome) or not is_at_most(bound, bound_by(bounds, outcome)):
                return False
    return True


def are_answers(game, position, thing):
    """Whether any value has one answer that is possible for each move, in the order of the moves."""
    if not isinstance(thing, tuple) or not all([isinstance(pair, tuple) and len(pair) == 2 for pair in thing]):
        return False
    if not all([is_integer(move) for move, _ in thing]):
        return False
    if tuple([move for move, _ in thing]) != game.moves(position):
        return False
    return all([answer in game.answers(position, move) for move, answer in thing])
