"""The names, parameters and files of the interface, and what all functions share."""

import copy
import inspect
import unittest

from latebyfew import compared, days, desks, errors, games, labels, machines, plans, rounds, slack, sure, towns
from latebyfew import underway
from samples import EMPTY, ODD, ONE, SIX, TOWN, with_bools, with_lists

MACHINE = ((False, ((1, 1), (2, 1))), (True, ()))
OTHER = ((False, ((2, 1),)), (True, ()))

INTERFACE = (
    (towns, "is_town", ("thing",)),
    (towns, "written", ("town",)),
    (towns, "read", ("text",)),
    (rounds, "is_round", ("town", "thing")),
    (rounds, "rounds", ("town",)),
    (rounds, "cost", ("town", "tour")),
    (rounds, "loads", ("town", "tour")),
    (rounds, "is_day", ("town", "tour", "thing")),
    (rounds, "begins", ("town", "tour", "day")),
    (rounds, "broken", ("town", "tour", "day")),
    (rounds, "late_legs", ("town", "tour", "day")),
    (sure, "worst_begins", ("town", "tour", "g")),
    (sure, "judge_sure", ("town", "tour", "g")),
    (sure, "sure_holds", ("town", "tour", "g", "thing")),
    (sure, "is_sure", ("town", "tour", "g")),
    (sure, "strength", ("town", "tour")),
    (machines, "sure_machine", ("town", "g")),
    (machines, "is_machine", ("thing",)),
    (machines, "is_least", ("machine",)),
    (machines, "least", ("machine",)),
    (machines, "accepts", ("machine", "word")),
    (machines, "count", ("machine",)),
    (machines, "word_at", ("machine", "k")),
    (machines, "place_of", ("machine", "word")),
    (compared, "parted", ("one", "two")),
    (compared, "is_within", ("one", "two")),
    (compared, "joined", ("one", "two", "how")),
    (compared, "parting_round", ("one", "two", "g")),
    (compared, "is_surer", ("one", "two", "g")),
    (compared, "sure_counts", ("town",)),
    (slack, "leg_room", ("town", "tour", "g", "at")),
    (slack, "latest_start", ("town", "tour", "g")),
    (slack, "floats", ("town", "tour", "g")),
    (labels, "is_path", ("town", "thing")),
    (labels, "label_of", ("town", "g", "prices", "path")),
    (labels, "is_label", ("town", "g", "thing")),
    (labels, "extended", ("town", "g", "prices", "label", "place")),
    (labels, "closed_cost", ("town", "g", "label")),
    (labels, "does_dominate", ("town", "g", "one", "other")),
    (labels, "judge_least", ("town", "g", "prices")),
    (labels, "least_holds", ("town", "g", "prices", "thing")),
    (labels, "price_bound", ("town", "g", "vans", "prices")),
    (plans, "is_plan", ("town", "thing")),
    (plans, "plan_cost", ("town", "plan")),
    (plans, "is_sure_plan", ("town", "g", "plan")),
    (plans, "plan_attack", ("town", "g", "plan")),
    (plans, "judge_plan", ("town", "g", "vans")),
    (plans, "plan_holds", ("town", "g", "vans", "thing")),
    (plans, "staircase", ("town", "vans")),
    (plans, "sureness", ("town", "vans", "g", "h")),
    (games, "is_position", ("town", "thing")),
    (games, "moves_of", ("town", "position")),
    (games, "value_of", ("town", "position")),
    (games, "arrivals", ("town", "position", "move")),
    (games, "judge_day", ("town", "g", "wishes")),
    (games, "day_holds", ("town", "g", "wishes", "thing")),
    (games, "driver_holds", ("town", "thing")),
    (games, "foe_holds", ("town", "thing")),
    (days, "follow", ("town", "g", "wishes", "log")),
    (days, "advice", ("town", "position")),
    (days, "advised_deed", ("town", "position", "move", "answer")),
    (days, "luck", ("town", "g", "wishes", "log")),
    (underway, "is_standing", ("town", "thing")),
    (underway, "is_sure_order", ("town", "standing", "thing")),
    (underway, "weight_of", ("town", "standing", "order")),
    (underway, "judge_rest", ("town", "standing")),
    (underway, "rest_holds", ("town", "standing", "thing")),
    (desks, "Desk", ("town",)),
    (desks, "read_desk", ("text",)),
)
METHODS = (
    ("town", ()), ("marks", ()), ("text", ()), ("copied", ()), ("do", ("deed",)), ("undo", ()), ("redo", ()),
    ("stairs", ("vans",)), ("dearer", ("word", "vans")),
)
GOOD = {"town": TOWN, "tour": (1, 2), "day": (4, 3, 3), "text": "town 3 2", "thing": TOWN, "g": 2,
        "machine": MACHINE, "word": (2,), "k": 1, "one": MACHINE, "two": OTHER, "how": "first", "at": 1,
        "prices": (3, -4), "path": (2, 1), "label": (2, (2,), (4, 4, 4), 0, 1, 8), "place": 1, "vans": 2,
        "plan": ((1, 2),), "h": 3, "position": (0, 0, 1, (1, 2)), "move": 1, "wishes": (1, 2), "answer": "late",
        "log": (("go", 1, "late", "pass"),), "standing": (0, 0, 0, 0, (1, 2)), "order": (2, 1)}
# Where another argument is a good one than elsewhere.
OTHERS = {
    "parting_round": {"one": TOWN, "two": ONE},
    "is_surer": {"one": TOWN, "two": ONE},
    "does_dominate": {"one": (2, (2,), (4, 4, 4), 0, 1, 8), "other": (2, (1, 2), (4, 4, 5), 0, 1, 8)},
    "leg_room": {"g": 1},
    "latest_start": {"g": 1},
    "floats": {"g": 1},
}


def good_arguments(name, parameters):
    """Valid arguments of a function, by its parameters."""
    good = {**GOOD, **OTHERS.get(name, {})}
    return {word: good[word] for word in parameters}


class Interface(unittest.TestCase):
    def test_names_and_parameters(self):
        for module, name, parameters in INTERFACE:
            with self.subTest(name):
                found = inspect.signature(getattr(module, name)).parameters.values()
                self.assertEqual(tuple(one.name for one in found), parameters)
                self.assertTrue(all(one.kind == one.POSITIONAL_OR_KEYWORD for one in found))
                self.assertTrue(all(one.default is one.empty for one in found))

    def test_the_methods_of_a_desk(self):
        for name, parameters in METHODS:
            with self.subTest(name):
                self.assertIn(name, vars(desks.Desk))
                found = inspect.signature(getattr(desks.Desk(TOWN), name)).parameters.values()
                self.assertEqual(tuple(one.name for one in found), parameters)
                self.assertTrue(all(one.kind == one.POSITIONAL_OR_KEYWORD for one in found))
                self.assertTrue(all(one.default is one.empty for one in found))
        self.assertEqual(desks.Desk.__bases__, (object,))

    def test_defined_in_their_file(self):
        for module, name, _ in INTERFACE:
            self.assertEqual(getattr(module, name).__module__, module.__name__)

    def test_by_position_and_by_name(self):
        for module, name, parameters in INTERFACE:
            with self.subTest(name):
                function = getattr(module, name)
                by_name = good_arguments(name, parameters)
                expected = function(*by_name.values())
                self.assertEqual(function(**by_name), expected)
                self.assertEqual(function(**dict(reversed(by_name.items()))), expected)

    def test_the_same_call_gives_the_same(self):
        for module, name, parameters in INTERFACE:
            function = getattr(module, name)
            given = good_arguments(name, parameters).values()
            expected = function(*given)
            for odd in ODD:
                try:
                    function(*[odd for _ in parameters])
                except errors.LateError:
                    pass
            self.assertEqual(function(*given), expected)

    def test_arguments_are_not_changed(self):
        for module, name, parameters in INTERFACE:
            # A table for a budget of 10 ** 39 would be too large.
            for odd in [odd for odd in ODD if odd != 10 ** 39 or parameters[-1] not in ("g", "vans")]:
                given = [*good_arguments(name, parameters).values()][:-1] + [copy.deepcopy(odd)]
                before = copy.deepcopy(given)
                try:
                    getattr(module, name)(*given)
                except errors.LateError:
                    pass
                self.assertEqual(given, before)

    def test_bad_town_comes_first(self):
        for module, name, parameters in INTERFACE:
            if parameters[0] != "town":
                continue
            for odd in [*ODD, *with_lists(TOWN), *with_bools(TOWN), TOWN[:3], TOWN + (1,), "town 3 2"]:
                for other in ((1, 2), (9,), None):
                    with self.subTest(name, odd=odd, other=other):
                        with self.assertRaises(errors.BadTown) as caught:
                            getattr(module, name)(odd, *[other for _ in parameters[1:]])
                        self.assertIs(caught.exception.thing, odd)

    def test_yes_and_no_are_bools(self):
        for thing in (*ODD, TOWN, EMPTY, ONE, SIX, (1,), (1, 2)):
            self.assertIsInstance(towns.is_town(thing), bool)
            self.assertIsInstance(rounds.is_round(TOWN, thing), bool)
            self.assertIsInstance(rounds.is_day(TOWN, (1,), thing), bool)
            self.assertIsInstance(sure.sure_holds(TOWN, (1,), 1, thing), bool)
            self.assertIsInstance(machines.is_machine(thing), bool)
            self.assertIsInstance(labels.is_path(TOWN, thing), bool)
            self.assertIsInstance(labels.is_label(TOWN, 0, thing), bool)
            self.assertIsInstance(labels.least_holds(TOWN, 0, (1, 2), thing), bool)
            self.assertIsInstance(plans.is_plan(TOWN, thing), bool)
            self.assertIsInstance(plans.is_plan(TOWN, (thing,)), bool)
            self.assertIsInstance(plans.plan_holds(TOWN, 0, 1, thing), bool)
            self.assertIsInstance(games.is_position(TOWN, thing), bool)
            self.assertIsInstance(games.day_holds(TOWN, 0, (1,), thing), bool)
            self.assertIsInstance(games.driver_holds(TOWN, thing), bool)
            self.assertIsInstance(games.foe_holds(TOWN, thing), bool)
            self.assertIsInstance(underway.is_standing(TOWN, thing), bool)
            for left in ((), (2,)):
                self.assertIsInstance(underway.is_sure_order(TOWN, (1, 0, 0, 0, left), thing), bool)
                self.assertIsInstance(underway.rest_holds(TOWN, (1, 0, 0, 0, left), thing), bool)
        for g in range(4):
            self.assertIsInstance(plans.is_sure_plan(TOWN, g, ((1, 2),)), bool)
            self.assertIsInstance(sure.is_sure(TOWN, (1, 2), g), bool)
            self.assertIsInstance(compared.is_surer(TOWN, ONE, g), bool)
        for machine in (MACHINE, OTHER):
            self.assertIsInstance(machines.is_least(machine), bool)
            self.assertIsInstance(machines.accepts(machine, (1,)), bool)
            self.assertIsInstance(compared.is_within(machine, OTHER), bool)


if __name__ == "__main__":
    unittest.main()
