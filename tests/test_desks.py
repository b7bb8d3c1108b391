"""Desks: deeds, undoing and redoing, marks, texts, and what a desk answers."""

import unittest
from random import Random

from latebyfew.desks import Desk, read_desk
from latebyfew.errors import BadDeed, BadNumber, BadText, BadTown, BadWord, LateError, NothingToRedo, NothingToUndo
from latebyfew.plans import staircase
from latebyfew.towns import is_town, written
from samples import EMPTY, LAST, ODD, ONE, PAIR, SIX, TOWN, full_town, random_town, roomy_town, with_bools, with_lists

PLACE = (1, 5, 2, 0, 3, 9)
THREE = full_town(3)


def done(town, *deeds):
    """A desk with these deeds done."""
    desk = Desk(town)
    for deed in deeds:
        desk.do(deed)
    return desk


def state(desk):
    return desk.town(), desk.marks()


def random_deed(draw, town, marks):
    """A deed that can perhaps be done."""
    many = len(town[0])
    start = draw.randint(0, 9)
    place = (start, start + draw.randint(-1, 9), draw.randint(0, 3), draw.randint(0, 3), draw.randint(0, 3), 4)
    usual = draw.randint(0, 5)
    leg = (draw.randint(0, many), draw.randint(0, many), usual, usual + draw.randint(-1, 4), draw.randint(0, 9))
    word = draw.choice(("a", "b", "old", "new", "zzzzzzzzzz", "Bad"))
    return draw.choice((
        ("add", place) if many < 5 else ("end", 9), ("put", draw.randint(0, many), place), ("drop", draw.randint(0, many)),
        ("leg", leg), ("leg", leg), ("close", leg[0], leg[1]), ("end", draw.randint(-1, 30)),
        ("room", draw.randint(-1, 9)), ("mark", word), ("back", word)))


def by_words(town, marks, deed):
    """Town and marks behind a deed with integers and words, by the document; None if it cannot be done."""
    places, legs, end, room = list(town[0]), {leg[:2]: leg for leg in town[1]}, town[2], town[3]
    kept = dict(marks)
    word = deed[0]
    if word == "mark":
        if not (deed[1].isalpha() and deed[1].islower() and len(deed[1]) <= 10):
            return None
        return town, tuple(sorted({**kept, deed[1]: town}.items()))
    if word == "back":
        return (kept[deed[1]], marks) if deed[1] in kept else None
    if word in ("put", "drop") and not 1 <= deed[1] <= len(places):
        return None
    if word == "add":
        places.append(deed[1])
    elif word == "put":
        places[deed[1] - 1] = deed[2]
    elif word == "drop":
        del places[deed[1] - 1]
        numbers = {0: 0}
        for old in range(1, len(town[0]) + 1):
            if old != deed[1]:
                numbers[old] = len(numbers)
        legs = {(numbers[a], numbers[b]): (numbers[a], numbers[b], *leg[2:])
                for (a, b), leg in legs.items() if a in numbers and b in numbers}
    elif word == "leg":
        legs[deed[1][:2]] = deed[1]
    elif word == "close":
        if deed[1:] not in legs:
            return None
        del legs[deed[1:]]
    elif word == "end":
        end = deed[1]
    else:
        room = deed[1]
    result = (tuple(places), tuple(legs[ends] for ends in sorted(legs)), end, room)
    return (result, marks) if is_town(result) else None


class Deeds(unittest.TestCase):
    def test_the_example(self):
        desk = Desk(PAIR)
        self.assertEqual(
            [desk.do(("mark", "old")), desk.do(("leg", (2, 1, 2, 3, 9))), desk.stairs(2), desk.dearer("old", 2),
             desk.undo(), desk.town() == PAIR, read_desk(desk.text()) == desk],
            [None, None, (9, 14, 14, 14), ((9, 9), (11, 14), (11, 14), (11, 14)), None, True, True])

    def test_each_deed(self):
        places, legs, end, room = TOWN
        other = (1, 2, 3, 3, 0)
        for deed, expected in (
                (("add", PLACE), ((*places, PLACE), legs, end, room)),
                (("put", 1, PLACE), ((PLACE, places[1]), legs, end, room)),
                (("put", 2, PLACE), ((places[0], PLACE), legs, end, room)),
                (("drop", 1), (places[1:], ((0, 1, 3, 3, 4), (1, 0, 3, 5, 4)), end, room)),
                (("drop", 2), (places[:1], ((0, 1, 2, 4, 3), (1, 0, 2, 3, 3)), end, room)),
                (("leg", other), (places, (*legs[:3], other, *legs[4:]), end, room)),
                (("close", 1, 2), (places, (*legs[:3], *legs[4:]), end, room)),
                (("close", 0, 1), (places, legs[1:], end, room)),
                (("end", 0), (places, legs, 0, room)), (("room", 0), (places, legs, end, 0)),
                (("end", 99), (places, legs, 99, room)), (("room", 60), (places, legs, end, 60)),
                (("mark", "a"), TOWN)):
            desk = Desk(TOWN)
            self.assertIsNone(desk.do(deed))
            self.assertEqual(desk.town(), expected, deed)
            self.assertIs(is_town(desk.town()), True)
            self.assertIsNone(desk.undo())
            self.assertEqual(state(desk), (TOWN, ()))
            self.assertIsNone(desk.redo())
            self.assertEqual(desk.town(), expected)

    def test_a_new_leg(self):
        desk = done(TOWN, ("close", 1, 2), ("close", 2, 1), ("leg", (2, 1, 0, 0, 0)))
        self.assertEqual([leg[:2] for leg in desk.town()[1]], [(0, 1), (0, 2), (1, 0), (2, 0), (2, 1)])
        desk = done(((PLACE, PLACE), (), 0, 0), *[("leg", (a, b, 1, 2, 3)) for a in (2, 0, 1) for b in (1, 2, 0) if a != b])
        self.assertEqual([leg[:2] for leg in desk.town()[1]], [(0, 1), (0, 2), (1, 0), (1, 2), (2, 0), (2, 1)])

    def test_dropping_numbers_the_others_anew(self):
        for k in (1, 2, 3):
            found = done(THREE, ("drop", k)).town()
            kept = [place for place in (1, 2, 3) if place != k]
            self.assertEqual(found[0], tuple(THREE[0][place - 1] for place in kept))
            old = {leg[:2]: leg for leg in THREE[1]}
            for leg in found[1]:
                ends = tuple([0, *kept][end] for end in leg[:2])
                self.assertEqual(leg[2:], old[ends][2:])
            self.assertEqual(len(found[1]), 6)
        self.assertEqual(done(THREE, ("drop", 1), ("drop", 1), ("drop", 1)).town(), ((), (), *THREE[2:]))
        self.assertEqual(done(SIX, ("drop", 6), ("drop", 5), ("drop", 4)).town()[1], THREE[1])

    def test_marks(self):
        desk = done(TOWN, ("mark", "b"), ("end", 3), ("mark", "abcdefghij"), ("end", 4))
        late, later = (*TOWN[:2], 3, 2), (*TOWN[:2], 4, 2)
        self.assertEqual(state(desk), (later, (("abcdefghij", late), ("b", TOWN))))
        desk.do(("mark", "b"))
        self.assertEqual(state(desk), (later, (("abcdefghij", late), ("b", later))))
        desk.do(("back", "abcdefghij"))
        self.assertEqual(state(desk), (late, (("abcdefghij", late), ("b", later))))
        desk.undo()
        desk.undo()
        self.assertEqual(state(desk), (later, (("abcdefghij", late), ("b", TOWN))))
        desk.do(("back", "b"))
        self.assertEqual(desk.town(), TOWN)

    def test_deeds_that_change_nothing(self):
        for deed in (("put", 1, TOWN[0][0]), ("leg", TOWN[1][3]), ("end", 20), ("room", 2)):
            desk = done(TOWN, deed)
            self.assertEqual(state(desk), (TOWN, ()))
            desk.undo()
            with self.assertRaises(NothingToUndo):
                desk.undo()
            desk.redo()
            with self.assertRaises(NothingToRedo):
                desk.redo()
            self.assertEqual(state(desk), (TOWN, ()))
        desk = done(TOWN, ("mark", "a"), ("mark", "a"), ("back", "a"))
        for _ in range(2):
            desk.undo()
            self.assertEqual(state(desk), (TOWN, (("a", TOWN),)))
        desk.undo()
        self.assertEqual(state(desk), (TOWN, ()))

    def test_undo_and_redo(self):
        desk = Desk(TOWN)
        with self.assertRaises(NothingToUndo):
            desk.undo()
        with self.assertRaises(NothingToRedo):
            desk.redo()
        desk = done(TOWN, ("end", 1), ("end", 2), ("end", 3))
        desk.undo()
        desk.undo()
        self.assertEqual(desk.town()[2], 1)
        desk.redo()
        self.assertEqual(desk.town()[2], 2)
        desk.do(("end", 4))
        with self.assertRaises(NothingToRedo):
            desk.redo()
        ends = []
        for _ in range(3):
            desk.undo()
            ends.append(desk.town()[2])
        self.assertEqual(ends, [2, 1, 20])
        with self.assertRaises(NothingToUndo):
            desk.undo()
        desk.redo()
        self.assertEqual(desk.town()[2], 1)

    def test_what_is_kept_over_many_deeds(self):
        words = {}
        for seed in range(60):
            draw = Random(seed)
            town = random_town(seed)
            desk = Desk(town)
            past, future = [], []
            now = (town, ())
            for _ in range(40):
                turn = draw.random()
                if turn < 0.2 and past:
                    future.append(now)
                    now = past.pop()
                    desk.undo()
                elif turn < 0.35 and future:
                    past.append(now)
                    now = future.pop()
                    desk.redo()
                else:
                    deed = random_deed(draw, *now)
                    after = by_words(*now, deed)
                    words.setdefault((deed[0], after is None), 0)
                    words[(deed[0], after is None)] += 1
                    if after is None:
                        with self.assertRaises(BadDeed) as caught:
                            desk.do(deed)
                        self.assertIs(caught.exception.thing, deed)
                    else:
                        past.append(now)
                        now, future = after, []
                        self.assertIsNone(desk.do(deed))
                self.assertEqual(state(desk), now)
            self.assertEqual(desk.stairs(2), staircase(now[0], 2))
            self.assertEqual(read_desk(desk.text()), desk)
        kinds = ("put", "drop", "leg", "close", "end", "room", "mark", "back")
        self.assertLessEqual({("add", False), *[(word, bad) for word in kinds for bad in (True, False)]}, set(words))
        self.assertGreater(min(words.values()), 3)


class BadDeeds(unittest.TestCase):
    def check(self, town, *deeds):
        """None of the deeds can be done, and none changes anything."""
        for deed in deeds:
            desk = done(town, ("mark", "old"), ("end", 7), ("end", 8))
            desk.undo()
            before = state(desk)
            with self.assertRaises(BadDeed, msg=deed) as caught:
                desk.do(deed)
            self.assertIs(caught.exception.thing, deed)
            self.assertEqual(state(desk), before)
            desk.redo()
            self.assertEqual(desk.town()[2], 8)
            desk.undo()
            desk.undo()
            self.assertEqual(state(desk), (town, (("old", town),)))

    def test_places_that_are_none(self):
        for odd in (*ODD, PLACE[:5], PLACE + (1,), [*PLACE], (2, 1, 0, 0, 0, 0), (-1, 1, 0, 0, 0, 0), *with_bools(PLACE)):
            self.check(TOWN, ("add", odd), ("put", 1, odd), ("put", 2, odd))
        for k in (0, 3, -1, True, False, None, "1", (1,), [1], 10 ** 39):
            self.check(TOWN, ("put", k, PLACE), ("drop", k))
        self.check(EMPTY, ("put", 1, PLACE), ("drop", 1), ("drop", 0))

    def test_legs_that_are_none(self):
        leg = (1, 2, 0, 1, 5)
        for odd in (*ODD, leg[:4], leg + (1,), (1, 1, 0, 1, 5), (0, 3, 0, 1, 5), (3, 0, 0, 1, 5), (1, 2, 2, 1, 5),
                    (-1, 2, 0, 1, 5), (1, 2, 0, 1, -5), *with_bools(leg), *with_lists(leg)):
            self.check(TOWN, ("leg", odd))
        self.check(EMPTY, ("leg", (0, 1, 1, 1, 1)), ("leg", (0, 0, 1, 1, 1)))

    def test_legs_that_are_not_listed(self):
        for a, b in ((1, 1), (0, 0), (0, 3), (True, 2), (1, False), (False, 1), ("0", 1), (0, None), ((0, 1), 1)):
            self.check(TOWN, ("close", a, b))
        self.check(ONE, ("close", 0, 2), ("close", True, 0), ("close", 1, False))
        gone = (TOWN[0], TOWN[1][1:], *TOWN[2:])
        self.check(gone, ("close", 0, 1))

    def test_numbers_that_are_none(self):
        for odd in (*[one for one in ODD if not (type(one) is int and one >= 0)], "20", (20,), [20]):
            self.check(TOWN, ("end", odd), ("room", odd))

    def test_words_that_are_none_or_not_there(self):
        for odd in (*ODD, "A", "aB", "a b", "a1", "abcdefghijk", " a", "a\n", ("a",), ["a"], "mark-", "_"):
            if odd != "town":
                self.check(TOWN, ("mark", odd), ("back", odd))
        self.check(TOWN, ("back", "new"), ("back", "ol"), ("back", "olds"), ("back", "town"))

    def test_no_deeds(self):
        for odd in (*ODD, "add", ("add",), ("add", PLACE, 1), ("put", 1), ("put", 1, PLACE, 1), ("drop",), ("drop", 1, 1),
                    ("leg",), ("leg", *TOWN[1][0]), ("close", 0), ("close", (0, 1)), ("close", 0, 1, 2), ("end",),
                    ("end", 1, 2), ("room",), ("mark",), ("mark", "a", TOWN), ("back",), ("back", "old", 1),
                    ("put", 1, PLACE, PLACE), ("lag", TOWN[1][3]), ("Drop", 1), ("ends", 3), ("place", 1), ("pit", 1, PLACE),
                    ("clothe", 1, 2), ("marks", "a"), ("bark", "old"), ("close", 1, 2, 3), ("drop", 1, PLACE),
                    ["end", 1], ("Add", PLACE), ("open", 1), (None, 1), (("end",), 1), ("", 1), ("undo",), ("end", [1])):
            self.check(TOWN, odd)


class Copies(unittest.TestCase):
    def test_a_copy_goes_its_own_way(self):
        desk = done(TOWN, ("mark", "a"), ("end", 1), ("end", 2))
        desk.undo()
        other = desk.copied()
        self.assertIsInstance(other, Desk)
        self.assertEqual(other, desk)
        other.redo()
        self.assertEqual([desk.town()[2], other.town()[2]], [1, 2])
        desk.do(("room", 7))
        with self.assertRaises(NothingToRedo):
            desk.redo()
        other.undo()
        other.undo()
        other.undo()
        self.assertEqual(state(other), (TOWN, ()))
        self.assertEqual(state(desk), ((*TOWN[:2], 1, 7), (("a", TOWN),)))
        other.redo()
        other.do(("mark", "b"))
        self.assertEqual([len(desk.marks()), len(other.marks())], [1, 2])
        for _ in range(3):
            desk.undo()
        self.assertEqual(state(desk), (TOWN, ()))
        self.assertEqual([word for word, _ in other.marks()], ["a", "b"])

    def test_the_same_deeds_to_undo(self):
        desk = done(TOWN, ("end", 1), ("end", 2))
        desk.undo()
        other = desk.copied()
        for one in (desk, other):
            one.redo()
            one.undo()
            one.undo()
            with self.assertRaises(NothingToUndo):
                one.undo()
            self.assertEqual(one.town(), TOWN)


class Equality(unittest.TestCase):
    def test_by_town_and_marks(self):
        self.assertTrue(Desk(TOWN) == Desk(TOWN))
        self.assertFalse(Desk(TOWN) != Desk(TOWN))
        self.assertFalse(Desk(TOWN) == Desk(ONE))
        self.assertTrue(Desk(TOWN) != Desk(ONE))
        undone = done(TOWN, ("end", 1))
        undone.undo()
        self.assertEqual(undone, Desk(TOWN))
        self.assertNotEqual(done(TOWN, ("mark", "a")), Desk(TOWN))
        self.assertNotEqual(done(TOWN, ("mark", "a")), done(TOWN, ("mark", "b")))
        self.assertEqual(done(TOWN, ("mark", "a"), ("mark", "b")), done(TOWN, ("mark", "b"), ("mark", "a")))
        self.assertNotEqual(done(TOWN, ("mark", "a"), ("end", 1)), done(TOWN, ("end", 1), ("mark", "a")))

    def test_values_of_other_types(self):
        desk = Desk(TOWN)
        for odd in (*[one for one in ODD if not isinstance(one, Desk)], TOWN, (TOWN, ()), desk.text(), "desk"):
            self.assertIs(desk == odd, False)
            self.assertIs(odd == desk, False)
            self.assertIs(desk != odd, True)
            self.assertIs((desk,) == (odd,), False)
            self.assertIs((1, (desk, 2)) == (1, (odd, 2)), False)
        self.assertIs((1, (desk, 2)) == (1, (Desk(TOWN), 2)), True)
        self.assertIs(desk in (None, TOWN, Desk(ONE)), False)


class Texts(unittest.TestCase):
    def test_the_parts(self):
        desk = done(TOWN, ("mark", "b"), ("end", 3), ("mark", "a"))
        self.assertEqual(desk.text(), "\n".join(
            [written((*TOWN[:2], 3, 2)), "mark a", written((*TOWN[:2], 3, 2)), "mark b", written(TOWN)]))
        self.assertEqual(Desk(EMPTY).text(), "town 3 2")
        self.assertEqual(done(EMPTY, ("mark", "x")).text(), "town 3 2\nmark x\ntown 3 2")

    def test_there_and_back(self):
        for seed in range(40):
            draw = Random(seed)
            desk = Desk(roomy_town(seed, seed % 6))
            for word in draw.sample(("a", "ab", "b", "z", "mark", "town", "abcdefghij"), draw.randint(0, 6)):
                desk.do(("mark", word))
                desk.do(("end", draw.randint(0, 99)))
            found = read_desk(desk.text())
            self.assertIsInstance(found, Desk)
            self.assertEqual(state(found), state(desk))
            self.assertEqual(found.text(), desk.text())
            with self.assertRaises(NothingToUndo):
                found.undo()
            with self.assertRaises(NothingToRedo):
                found.redo()

    def test_a_desk_that_was_read_goes_on(self):
        desk = read_desk("town 3 2\nmark x\ntown 5 6")
        self.assertEqual(state(desk), (EMPTY, (("x", ((), (), 5, 6)),)))
        desk.do(("back", "x"))
        self.assertEqual(desk.town(), ((), (), 5, 6))
        desk.undo()
        self.assertEqual(state(desk), (EMPTY, (("x", ((), (), 5, 6)),)))

    def check_bad(self, text, at):
        with self.assertRaises(BadText, msg=text) as caught:
            read_desk(text)
        self.assertEqual((caught.exception.at, type(caught.exception.at)), (at, int), text)

    def test_the_first_wrong_line(self):
        for text, at in (
                ("", 1), ("\n", 1), ("town 3", 1), ("mark a", 1), ("town 3 2\n", 2), ("town 3 2\n\nmark a", 2),
                ("place 0 1 0 0 0 0", 1), ("town 3 2\ntown 3 2", 2), ("town 3 2 ", 1), (" town 3 2", 1),
                ("town 3 2\nmark A\ntown 3 2", 2), ("town 3 2\nmark\ntown 3 2", 2), ("town 3 2\nmark \ntown 3 2", 2),
                ("town 3 2\nmark a b\ntown 3 2", 2), ("town 3 2\nmark abcdefghijk\ntown 3 2", 2),
                ("town 3 2\nMark a\ntown 3 2", 2), ("town 3 2\nmark  a\ntown 3 2", 2), ("town 3 2\nmark a \ntown 3 2", 2),
                ("town 3 2\nmark a\nmark b\ntown 3 2", 3), ("town 3 2\nmark a\n", 3), ("town 3 2\nmark a\ntown 3", 3),
                ("town 3 2\nmark b\ntown 3 2\nmark a\ntown 3 2", 4), ("town 3 2\nmark a\ntown 3 2\nmark a\ntown 3 2", 4),
                ("town 3 2\nmark a\ntown 3 2\nmark c\ntown 3 2\nmark b\ntown 3 2", 6),
                ("town 3 2\nmark b\ntown 3 2\nmark a", 4), ("town 3 2\nmark a\ntown 3 2\nmark b\ntown 03 2", 5),
                ("town 3 2\nmark a\ntown 3 2\n", 4), ("town 3 2\nmark a\ntown 3 2\nplace 0 1 0 0 0 0\nplace 2 1 0 0 0 0", 5),
                ("town 3 2\nplace 4 3 1 1 0 5\nmark a", 2), ("town 3 2\nleg 0 1 1 1 1\nmark a", 2),
                ("town 3 2\nplace 0 1 0 0 0 0\nleg 0 1 1 1 1\nplace 0 1 0 0 0 0", 4),
                ("town 3 2\nplace 0 1 0 0 0 0\nleg 0 1 1 1 1\nleg 0 1 1 1 1", 4),
                ("town 3 2\nmark a\ntown 3 2\nleg 0 1 1 1 1\nmark a", 4), ("town 3 2\r\nmark a\ntown 3 2", 1)):
            self.check_bad(text, at)

    def test_lines_that_are_missing(self):
        self.check_bad("town 3 2\nmark a", 3)
        self.check_bad("town 3 2\nmark a\ntown 3 2\nmark b", 5)
        self.check_bad(written(TOWN) + "\nmark zzzzzzzzzz", 11)

    def test_the_beginnings_of_a_text(self):
        lines = done(TOWN, ("mark", "a"), ("end", 3), ("mark", "b")).text().split("\n")
        for k in range(1, len(lines) + 1):
            text = "\n".join(lines[:k])
            if lines[k - 1].startswith("mark"):
                self.check_bad(text, k + 1)
            else:
                self.assertEqual(read_desk(text).text(), text)
            self.check_bad("\n".join([*lines[:k], "", *lines[k:]]), k + 1)
            self.check_bad("\n".join([*lines[:k - 1], lines[k - 1] + " ", *lines[k:]]), k)
            self.check_bad("\n".join([*lines[:k - 1], "x" + lines[k - 1], *lines[k:]]), k)

    def test_no_strings(self):
        for odd in ODD:
            if not isinstance(odd, str):
                self.check_bad(odd, 0)
        self.check_bad(["town 3 2"], 0)
        self.check_bad(Desk(EMPTY), 0)

    def test_long_texts(self):
        desk = done(full_town(5), *[("mark", word) for word in ("a", "b", "c", "d", "e", "f")])
        self.assertGreater(len(desk.text()), 3000)
        self.assertEqual(read_desk(desk.text()), desk)


class Questions(unittest.TestCase):
    def test_stairs(self):
        for seed in range(10):
            town = roomy_town(seed, seed % 5)
            desk = Desk(town)
            for vans in (0, 1, 2, 5):
                self.assertEqual(desk.stairs(vans), staircase(town, vans))
        for odd in (None, True, False, -1, "1", (1,), [1], {}, Desk(TOWN)):
            with self.assertRaises(BadNumber) as caught:
                Desk(PAIR).stairs(odd)
            self.assertIs(caught.exception.thing, odd)

    def test_dearer_with_staircases_of_other_lengths(self):
        for seed in range(12):
            one, two = roomy_town(seed, seed % 4), roomy_town(seed + 50, (seed * 3) % 5)
            desk = read_desk(written(one) + "\nmark other\n" + written(two))
            for vans in (0, 2, 5):
                old, new = staircase(two, vans), staircase(one, vans)
                longest = max(len(old), len(new))
                expected = tuple((old[min(g, len(old) - 1)], new[min(g, len(new) - 1)]) for g in range(longest))
                self.assertEqual(desk.dearer("other", vans), expected)
        desk = done(PAIR, ("mark", "two"), ("drop", 1))
        self.assertEqual(desk.dearer("two", 2), ((9, 8), (11, 8), (11, 8), (11, 8)))
        desk = done(PAIR, ("drop", 1), ("mark", "one"), ("drop", 1), ("mark", "none"))
        self.assertEqual(desk.dearer("one", 2), ((8, 0), (8, 0), (8, 0)))
        self.assertEqual(desk.dearer("none", 0), ((0, 0), (0, 0)))
        self.assertEqual(desk.dearer("one", 0), ((None, 0),) * 3)
        desk = read_desk(written(PAIR) + "\nmark last\n" + written(LAST))
        self.assertEqual(desk.dearer("last", 1), ((2, 9), (2, 11), (None, 11), (None, 11)))
        desk = read_desk(written(LAST) + "\nmark pair\n" + written(PAIR))
        self.assertEqual(desk.dearer("pair", 1), ((9, 2), (11, 2), (11, None), (11, None)))

    def test_bad_word_is_ahead_of_bad_number(self):
        desk = done(PAIR, ("mark", "old"))
        for odd in (*ODD, "new", "ol", "Old", ("old",), ["old"], "old "):
            for vans in (1, None):
                with self.assertRaises(BadWord) as caught:
                    desk.dearer(odd, vans)
                self.assertIs(caught.exception.thing, odd)
        for odd in (None, True, False, -1, "1", (1,), [1], {}):
            with self.assertRaises(BadNumber) as caught:
                desk.dearer("old", odd)
            self.assertIs(caught.exception.thing, odd)

    def test_bad_town(self):
        for odd in (*ODD, TOWN[:3], *with_lists(ONE), *with_bools(ONE)):
            with self.assertRaises(BadTown) as caught:
                Desk(odd)
            self.assertIs(caught.exception.thing, odd)

    def test_questions_change_nothing(self):
        desk = done(PAIR, ("mark", "old"), ("end", 14))
        desk.undo()
        before = state(desk)
        for call in (desk.town, desk.marks, desk.text, desk.copied, lambda: desk.stairs(2), lambda: desk.dearer("old", 2),
                     lambda: desk.stairs(None), lambda: desk.dearer("new", 1), lambda: desk.do(None)):
            try:
                first = call()
                self.assertEqual(call(), first)
            except LateError:
                pass
            self.assertEqual(state(desk), before)
        desk.redo()
        self.assertEqual(desk.town()[2], 14)

    def test_arguments_by_name(self):
        desk = Desk(town=PAIR)
        desk.do(deed=("mark", "old"))
        self.assertEqual(desk.stairs(vans=1), (9, 11, 11, 11))
        self.assertEqual(desk.dearer(vans=1, word="old"), ((9, 9), (11, 11), (11, 11), (11, 11)))
        self.assertEqual(read_desk(text="town 3 2"), Desk(EMPTY))


if __name__ == "__main__":
    unittest.main()
