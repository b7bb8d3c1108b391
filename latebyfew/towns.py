"""Towns and their texts."""

from latebyfew.errors import BadText, BadTown
from latebyfew.values import is_count, is_count_row

# The positions of the parts of a place, and how many there are.
OPEN = 0
SHUT = 1
SERVICE = 2
BRING = 3
FETCH = 4
PENALTY = 5
PLACE_PARTS = 6

# The same for a leg, behind its two ends.
USUAL = 2
LONGEST = 3
COST = 4
LEG_PARTS = 5


def is_town(thing):
    """Whether any value is a town."""
    if not isinstance(thing, tuple) or len(thing) != 4:
        return False
    places, legs, end, room = thing
    return is_count(end) and is_count(room) and are_places(places) and are_legs(legs, len(places))


def are_places(thing):
    """Whether any value is a tuple of places."""
    return isinstance(thing, tuple) and all([is_place_row(row) for row in thing])


def is_place_row(thing):
    """Whether any value is the row of a place."""
    return is_count_row(thing, PLACE_PARTS) and thing[OPEN] <= thing[SHUT]


def are_legs(thing, many):
    """Whether any value is the legs of a town with that many places."""
    if not isinstance(thing, tuple) or not all([is_leg_row(row, many) for row in thing]):
        return False
    return all([is_behind(thing[k + 1], thing[k]) for k in range(len(thing) - 1)])


def is_leg_row(thing, many):
    """Whether any value can be a leg of a town with that many places."""
    if not is_count_row(thing, LEG_PARTS):
        return False
    return thing[0] != thing[1] and max(thing[0], thing[1]) <= many and thing[USUAL] <= thing[LONGEST]


def is_behind(leg, other):
    """Whether leg can stand behind other: equal ends would list a leg twice."""
    return leg[:2] > other[:2]


def check_town(town):
    """Raise BadTown if the value is not a town."""
    if not is_town(town):
        raise BadTown(town)


def place_row(town, place):
    """The row of a place: places are counted from 1, as the depot is 0."""
    return town[0][place - 1]


def legs_by_ends(town):
    """The rows of the legs by their ends (a, b)."""
    return {leg[:2]: leg for leg in town[1]}


def written(town):
    """The text of a town."""
    check_town(town)
    places, legs, end, room = town
    lines = [line_of("town", (end, room))]
    lines.extend([line_of("place", row) for row in places])
    lines.extend([line_of("leg", row) for row in legs])
    return "\n".join(lines)


def line_of(word, numbers):
    """The line of a word and its numbers."""
    return " ".join([word] + [str(number) for number in numbers])


def read(text):
    """The town of a text; BadText with the number of the first wrong line."""
    if not isinstance(text, str):
        raise BadText(0)
    lines = text.split("\n")
    town, behind = town_from(lines, 0)
    if behind < len(lines):
        raise BadText(behind + 1)
    return town


def town_from(lines, start):
    """The town whose text the lines from start on are, as far as they go, and the position of the line behind it.

    If no town begins there, it is None and start.
    """
    head = numbers_of(lines[start], "town")
    if not is_count_row(head, 2):
        return (None, start)
    places = []
    legs = []
    for line in lines[start + 1:]:
        place = numbers_of(line, "place")
        leg = numbers_of(line, "leg")
        if not legs and is_place_row(place):
            places.append(place)
        elif is_leg_row(leg, len(places)) and (not legs or is_behind(leg, legs[-1])):
            legs.append(leg)
        else:
            break
    return ((tuple(places), tuple(legs), head[0], head[1]), start + 1 + len(places) + len(legs))


def numbers_of(line, word):
    """The numbers of a line that begins with word; None if it is no such line."""
    parts = line.split(" ")
    if parts[0] != word or not all([is_numeral(part) for part in parts[1:]]):
        return None
    return tuple([number_of(part) for part in parts[1:]])


def number_of(numeral):
    """The integer that a numeral stands for."""
    # Python reads no numeral of more than 4300 digits at once.
    rest, digits = numeral[:-4000], numeral[-4000:]
    if rest == "":
        return int(digits)
    return number_of(rest) * int("1" + "0" * 4000) + int(digits)


def is_numeral(part):
    """Whether a string is an integer from 0 on as Python writes it."""
    return part.isascii() and part.isdigit() and (part == "0" or part[0] != "0")
