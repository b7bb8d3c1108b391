"""Towns, odd values and changes of values that several tests use."""

from random import Random

from latebyfew.desks import Desk

TOWN = (
    ((0, 9, 1, 1, 0, 5), (4, 7, 1, 1, 0, 5)),
    ((0, 1, 2, 4, 3), (0, 2, 3, 3, 4), (1, 0, 2, 3, 3), (1, 2, 1, 3, 1), (2, 0, 3, 5, 4), (2, 1, 1, 1, 1)),
    20,
    2,
)
EMPTY = ((), (), 3, 2)
ONE = (((1, 1, 0, 1, 0, 1),), ((0, 1, 0, 1, 1), (1, 0, 1, 1, 0)), 1, 1)


def full_town(many):
    """A town of that many places in which every leg is listed and all fits."""
    places = tuple((k, 90 + k, k, 1, 2, 3 * k) for k in range(many))
    spots = range(many + 1)
    legs = tuple((a, b, a + b, a + 2 * b, 7 * a + b) for a in spots for b in spots if a != b)
    return (places, legs, 99, 2 * many)


SIX = full_town(6)
TOWNS = (TOWN, EMPTY, ONE, SIX)

# Values of all kinds, none of them a town, a round, a day or a text of a town.
ODD = (
    None, True, False, 0, 1, -1, 10 ** 39, "", "town", "town 3 2\n", (), [], {}, ((),), [()], (None,),
    (True,), ([],), ({},), ((), (), 3), [(), (), 3, 2], ((), (), 3, 2, 1), ((((((((),),),),),),),),
    {"places": ()}, ((), (), "3", 2), ((), (), None, 2), ("", "", 3, 2), ({}, {}, 3, 2),
    Desk(TOWN), (Desk(EMPTY),), [Desk(TOWN), 1], {"desk": Desk(ONE)}, (Desk(TOWN), Desk(TOWN), 3, 2),
)


def random_legs(draw, many, share):
    """Legs of a town of that many places; about that share of all that could be."""
    legs = []
    for a in range(many + 1):
        for b in range(many + 1):
            if a != b and draw.random() < share:
                usual = draw.randint(0, 5)
                legs.append((a, b, usual, usual + draw.randint(0, 4), draw.randint(0, 9)))
    return tuple(legs)


def random_town(seed):
    """A town of up to four places with tight windows and loads."""
    draw = Random(seed)
    many = draw.randint(0, 4)
    places = []
    for _ in range(many):
        start = draw.randint(0, 12)
        places.append((start, start + draw.randint(0, 8), draw.randint(0, 3), draw.randint(0, 3),
                       draw.randint(0, 3), draw.randint(0, 9)))
    legs = random_legs(draw, many, 0.8)
    return (tuple(places), legs, draw.randint(5, 30), draw.randint(2, 7))


def roomy_town(seed, many):
    """A town of that many places with wide windows, of which several paths and rounds hold."""
    draw = Random(1000 + seed)
    places = []
    for _ in range(many):
        start = draw.randint(0, 9)
        places.append((start, start + draw.randint(3, 25), draw.randint(0, 2), draw.randint(0, 3),
                       draw.randint(0, 3), draw.randint(0, 12)))
    legs = random_legs(draw, many, 0.9)
    return (tuple(places), legs, draw.randint(15, 45), draw.randint(3, 9))


# The town of the examples from part 7 on.
PAIR = (
    ((0, 10, 2, 1, 0, 5), (0, 8, 2, 1, 0, 7)),
    ((0, 1, 3, 5, 3), (0, 2, 4, 4, 4), (1, 0, 3, 4, 3), (1, 2, 2, 4, 2), (2, 0, 4, 6, 4), (2, 1, 2, 3, 4)),
    20,
    2,
)
# Sure for 1 late leg, but not for both: only the last step of its staircase differs.
LAST = (((0, 9, 0, 0, 0, 0),), ((0, 1, 1, 2, 1), (1, 0, 1, 2, 1)), 3, 0)


def changed(value, old, new):
    """All values made from value by putting new in the place of one part old."""
    if isinstance(value, tuple):
        for k, part in enumerate(value):
            for other in changed(part, old, new):
                yield value[:k] + (other,) + value[k + 1:]
    elif value == old and type(value) is type(old):
        yield new


def with_lists(value):
    """All values made from value by a list in the place of one tuple."""
    if isinstance(value, tuple):
        yield list(value)
        for k, part in enumerate(value):
            for other in with_lists(part):
                yield value[:k] + (other,) + value[k + 1:]


def with_bools(value):
    """All values made from value by a bool in the place of one 0 or 1."""
    yield from changed(value, 0, False)
    yield from changed(value, 1, True)


def resized(value):
    """All values made from value by leaving one part out or doubling it."""
    if isinstance(value, tuple):
        for k, part in enumerate(value):
            yield value[:k] + value[k + 1:]
            yield value[:k] + (part,) + value[k:]
            for other in resized(part):
                yield value[:k] + (other,) + value[k + 1:]
