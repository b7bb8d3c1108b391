"""Days that are driven: logs of them, advice for the driver, and luck."""

from latebyfew.errors import BadAnswer, BadLine, BadMove
from latebyfew.games import beginning, check_beginning, check_move, check_position
from latebyfew.play import AFTER, DEED, PAID, Game
from latebyfew.values import is_integer


def follow(town, g, wishes, log):
    """The position behind the last line of a log, None if the day is over, and what is paid; twice None if lost."""
    check_beginning(town, g, wishes)
    return followed(Game(town), beginning(g, wishes), log)


def followed(game, start, log):
    """The same, from a position on."""
    if not isinstance(log, tuple):
        raise BadLine(-1)
    position = start
    paid = 0
    for k, line in enumerate(log):
        parts = parts_of(line)
        if position is None or not is_possible(game, position, parts):
            raise BadLine(k)
        outcome = game.outcome(position, parts[0], parts[1], parts[2])
        if outcome is None:
            # The day is lost, and nothing can follow that.
            position = paid = None
        else:
            position = outcome[AFTER]
            paid = paid + outcome[PAID]
    return (position, paid)


def parts_of(line):
    """The triple (move, answer, deed) of a line of a log; None for any value that is not a line."""
    if not isinstance(line, tuple):
        return None
    if len(line) == 2 and line[0] == "home":
        return (0, line[1], "")
    if len(line) == 4 and line[0] == "go" and is_integer(line[1]) and line[1] > 0:
        return line[1:]
    return None


def is_possible(game, position, parts):
    """Whether the parts are those of a line that is possible at the position."""
    if parts is None or not game.has_move(position, parts[0]):
        return False
    move, answer, deed = parts
    if answer not in game.answers(position, move):
        return False
    return move == 0 or game.outcome(position, move, answer, deed) is not None


def advice(town, position):
    """A best move and the value of a position; None if it has none."""
    check_position(town, position)
    game = Game(town)
    least = game.value(position)
    return None if least is None else (game.best_move(position), least)


def advised_deed(town, position, move, answer):
    """The best that the driver can do after a move to a place and its answer."""
    check_position(town, position)
    game = Game(town)
    check_move(game, position, move)
    if move == 0:
        raise BadMove(move)
    if answer not in game.answers(position, move):
        raise BadAnswer(answer)
    return game.best_outcome(position, move, answer)[DEED]


def luck(town, g, wishes, log):
    """How much less a log costs than the value of its beginning; None if it is lost or leaves no value."""
    check_beginning(town, g, wishes)
    game = Game(town)
    start = beginning(g, wishes)
    position, paid = followed(game, start, log)
    rest = 0 if position is None else game.value(position)
    return None if paid is None or rest is None else game.value(start) - paid - rest
