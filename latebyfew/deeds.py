"""Deeds on a town and its marks: what results from each one."""

from latebyfew.rounds import are_listed, are_unlike_places
from latebyfew.towns import is_leg_row, is_town
from latebyfew.values import is_count_row


def after_deed(town, marks, deed):
    """The pair (town, marks) behind a deed; None for any value that is not a deed that can be done."""
    if not isinstance(deed, tuple) or len(deed) == 0:
        return None
    if len(deed) == 2 and deed[0] == "mark":
        return (town, with_mark(marks, deed[1], town)) if is_mark_word(deed[1]) else None
    if len(deed) == 2 and deed[0] == "back":
        result = marked_town(marks, deed[1])
    else:
        result = town_after(town, deed)
    return (result, marks) if is_town(result) else None


def town_after(town, deed):
    """What a deed makes of a town, which need not be a town; None if what it is about is not there."""
    places, legs, end, room = town
    word, parts = deed[0], deed[1:]
    if len(parts) == 1:
        part = parts[0]
        if word == "add":
            return (places + (part,), legs, end, room)
        if word == "drop" and are_unlike_places(town, parts):
            return (places[:part - 1] + places[part:], legs_without(legs, part), end, room)
        if word == "leg" and is_leg_row(part, len(places)):
            return (places, with_leg(legs, part), end, room)
        if word == "end":
            return (places, legs, part, room)
        if word == "room":
            return (places, legs, end, part)
    if len(parts) == 2:
        if word == "put" and are_unlike_places(town, parts[:1]):
            return (places[:parts[0] - 1] + parts[1:] + places[parts[0]:], legs, end, room)
        if word == "close" and is_count_row(parts, 2) and are_listed(town, [parts]):
            return (places, without_ends(legs, parts), end, room)
    return None


def without_ends(legs, ends):
    """The legs but the one with these ends."""
    return tuple([leg for leg in legs if leg[:2] != ends])


def with_leg(legs, leg):
    """The legs with a further one, which takes the place of the one with the same ends."""
    return tuple(sorted(without_ends(legs, leg[:2]) + (leg,)))


def legs_without(legs, place):
    """The legs of a town from which a place is removed, by the new numbers of the greater places."""
    kept = [leg for leg in legs if place not in leg[:2]]
    return tuple([(moved(leg[0], place), moved(leg[1], place)) + leg[2:] for leg in kept])


def moved(place, dropped):
    """The number of a place once another one is dropped."""
    return place - 1 if place > dropped else place


def is_mark_word(thing):
    """Whether any value is a word that a mark can have."""
    return isinstance(thing, str) and 1 <= len(thing) <= 10 and all(["a" <= sign <= "z" for sign in thing])


def with_mark(marks, word, town):
    """The marks with a further one, which takes the place of the one with the same word."""
    return tuple(sorted([mark for mark in marks if mark[0] != word] + [(word, town)]))


def marked_town(marks, word):
    """The town of the mark with that word; None for any value that has no mark."""
    for mark in marks:
        if mark[0] == word:
            return mark[1]
    return None
