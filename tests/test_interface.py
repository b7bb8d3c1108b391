"""The names, parameters and files of the interface, and what all functions share."""

import copy
import inspect
import unittest

from latebyfew import errors, rounds, towns
from samples import EMPTY, ODD, ONE, SIX, TOWN, with_bools, with_lists

INTERFACE = (
    (towns, "is_town", ("thing",)),
    (towns, "written", ("town",)),
    (towns, "read", ("text",)),
    (rounds, "is_round", ("town", "thing")),
    (rounds, "rounds", ("town",)),
    (rounds, "cost", ("town", "tour")),
    (rounds, "loads", ("town", "tour")),
    (rounds, "is_day", ("town", "tour", "thing")),
    (rounds, "begins", ("town", "tour", "day")),
    (rounds, "broken", ("town", "tour", "day")),
    (rounds, "late_legs", ("town", "tour", "day")),
)
GOOD = {"town": TOWN, "tour": (1, 2), "day": (4, 3, 3), "text": "town 3 2", "thing": TOWN}


class Interface(unittest.TestCase):
    def test_names_and_parameters(self):
        for module, name, parameters in INTERFACE:
            with self.subTest(name):
                found = inspect.signature(getattr(module, name)).parameters.values()
                self.assertEqual(tuple(one.name for one in found), parameters)
                self.assertTrue(all(one.kind == one.POSITIONAL_OR_KEYWORD for one in found))
                self.assertTrue(all(one.default is one.empty for one in found))

    def test_defined_in_their_file(self):
        for module, name, _ in INTERFACE:
            self.assertEqual(getattr(module, name).__module__, module.__name__)

    def test_by_position_and_by_name(self):
        for module, name, parameters in INTERFACE:
            with self.subTest(name):
                function = getattr(module, name)
                by_name = {word: GOOD[word] for word in parameters}
                self.assertEqual(function(*by_name.values()), function(**by_name))

    def test_the_same_call_gives_the_same(self):
        for module, name, parameters in INTERFACE:
            function = getattr(module, name)
            given = [GOOD[word] for word in parameters]
            self.assertEqual(function(*given), function(*given))

    def test_arguments_are_not_changed(self):
        for module, name, parameters in INTERFACE:
            for odd in ODD:
                given = [GOOD[word] for word in parameters[:-1]] + [copy.deepcopy(odd)]
                before = copy.deepcopy(given)
                try:
                    getattr(module, name)(*given)
                except errors.LateError:
                    pass
                self.assertEqual(given, before)

    def test_bad_town_comes_first(self):
        for module, name, parameters in INTERFACE:
            if parameters[0] != "town":
                continue
            for odd in [*ODD, *with_lists(TOWN), *with_bools(TOWN), TOWN[:3], TOWN + (1,), "town 3 2"]:
                for other in ((1, 2), (9,), None):
                    with self.subTest(name, odd=odd, other=other):
                        with self.assertRaises(errors.BadTown) as caught:
                            getattr(module, name)(odd, *[other for _ in parameters[1:]])
                        self.assertIs(caught.exception.thing, odd)

    def test_yes_and_no_are_bools(self):
        for thing in (*ODD, TOWN, EMPTY, ONE, SIX, (1,), (1, 2)):
            self.assertIsInstance(towns.is_town(thing), bool)
            self.assertIsInstance(rounds.is_round(TOWN, thing), bool)
            self.assertIsInstance(rounds.is_day(TOWN, (1,), thing), bool)


if __name__ == "__main__":
    unittest.main()
