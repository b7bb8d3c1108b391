"""Worst begins, sure rounds and their strength, and the certificates that are returned."""

import unittest
from itertools import combinations

from latebyfew.errors import BadBudget, BadRound, BadTown
from latebyfew.rounds import rounds
from latebyfew.sure import is_sure, judge_sure, strength, sure_holds, worst_begins
from reference import attacks, bounds, day_made_late, begins_on, is_right_table, is_sure_by_days, worst_by_days
from samples import EMPTY, ODD, ONE, SIX, TOWN, random_town, with_bools, with_lists

BUDGETS = (
    worst_begins,
    judge_sure,
    is_sure,
    lambda town, tour, g: sure_holds(town, tour, g, ("sure", ())),
    lambda town, tour, g: sure_holds(town, tour, g, None),
)
# Late by 9 on the way out, which the opening at 12 swallows but for 1, then by 2, then by 3.
SWALLOW = (
    ((12, 14, 1, 0, 0, 0), (0, 99, 1, 0, 0, 0)),
    ((0, 1, 4, 13, 0), (1, 2, 1, 3, 0), (2, 0, 1, 4, 0)),
    99,
    0,
)
# Nothing is late, nothing takes time, and every window is just a moment.
STILL = (((0, 0, 0, 0, 0, 0),), ((0, 1, 0, 0, 0), (1, 0, 0, 0, 0)), 0, 0)
# Late even on a day without a late leg: at the place, and home.
LATE = (((0, 2, 0, 0, 0, 0),), ((0, 1, 3, 3, 0), (1, 0, 0, 0, 0)), 9, 0)
LATE_HOME = (((0, 9, 1, 0, 0, 0),), ((0, 1, 3, 3, 0), (1, 0, 5, 5, 0)), 8, 0)


def small_rounds(many):
    """Rounds of random towns that have not too many days."""
    for seed in range(many):
        town = random_town(seed)
        for tour in rounds(town):
            if len(tour) <= 3:
                yield town, tour


class Examples(unittest.TestCase):
    def test_the_example(self):
        self.assertEqual(
            [worst_begins(TOWN, (1, 2), 2), is_sure(TOWN, (1, 2), 1), judge_sure(TOWN, (1, 2), 2),
             strength(TOWN, (1, 2)), strength(TOWN, (2, 1))],
            [((2, 4, 4), (4, 6, 8), (8, 10, 12)), True, ("attack", (0, 1), 1), 1, 3])


class WorstBegins(unittest.TestCase):
    def test_over_all_days(self):
        many = 0
        for town, tour in small_rounds(70):
            legs = len(tour) + 1
            expected = worst_by_days(town, tour, legs + 1)
            for g in range(legs + 2):
                self.assertEqual(worst_begins(town, tour, g), tuple(row[:g + 1] for row in expected))
            many += 1
        self.assertGreater(many, 150)

    def test_a_longer_round_over_all_days(self):
        places = ((3, 9, 1, 0, 0, 0), (0, 9, 2, 0, 0, 0), (14, 20, 0, 0, 0, 0), (0, 40, 1, 0, 0, 0))
        legs = ((0, 2, 1, 3, 0), (1, 3, 0, 2, 0), (2, 1, 1, 2, 0), (3, 4, 2, 4, 0), (4, 0, 1, 4, 0))
        town = (places, legs, 50, 0)
        for g in range(7):
            self.assertEqual(worst_begins(town, (2, 1, 3, 4), g), worst_by_days(town, (2, 1, 3, 4), g))

    def test_waiting_swallows_some(self):
        # The greatest delays are 9 and 3 of the legs 0 and 2: 12 in all, but only 4 of them last.
        self.assertEqual(worst_begins(SWALLOW, (1, 2), 3), ((12, 13, 13, 13), (14, 16, 17, 17), (16, 19, 21, 22)))

    def test_nothing_is_late(self):
        self.assertEqual(worst_begins(STILL, (1,), 0), ((0,), (0,)))
        self.assertEqual(worst_begins(STILL, (1,), 2), ((0, 0, 0), (0, 0, 0)))

    def test_the_depot_has_no_service_and_no_opening(self):
        town = (((0, 9, 7, 0, 0, 0), (5, 9, 7, 0, 0, 0)), ((0, 1, 1, 2, 0), (1, 0, 1, 3, 0)), 20, 0)
        self.assertEqual(worst_begins(town, (1,), 1), ((1, 2), (9, 11)))

    def test_budgets_beyond_the_legs(self):
        for g in range(3, 15):
            found = worst_begins(TOWN, (1, 2), g)
            self.assertEqual([len(row) for row in found], [g + 1] * 3)
            self.assertEqual(found, tuple(row + row[-1:] * (g - 3) for row in worst_begins(TOWN, (1, 2), 3)))

    def test_six_places(self):
        # All days with at most j late legs are no worse than those with longest times alone.
        tour = (6, 1, 5, 2, 4, 3)
        found = worst_begins(SIX, tour, 8)
        for j in range(9):
            days = [day_made_late(SIX, tour, late) for many in range(j + 1) for late in combinations(range(7), many)]
            begun = [begins_on(SIX, tour, day) for day in days]
            self.assertEqual([row[j] for row in found], [max(column) for column in zip(*begun)])


class Sure(unittest.TestCase):
    def test_over_all_days(self):
        answers = set()
        for town, tour in small_rounds(50):
            for g in range(len(tour) + 3):
                expected = is_sure_by_days(town, tour, g)
                self.assertIs(is_sure(town, tour, g), expected)
                answers.add((g, expected))
        self.assertEqual(answers, {(g, answer) for g in range(6) for answer in (True, False)})

    def test_just_in_time(self):
        self.assertIs(is_sure(STILL, (1,), 0), True)
        self.assertIs(is_sure(STILL, (1,), 9), True)
        for g, end in ((0, 8), (1, 10), (2, 12), (3, 14), (8, 14)):
            open_town = (((0, 9, 1, 1, 0, 5), (4, 8, 1, 1, 0, 5)),) + TOWN[1:2]
            self.assertIs(is_sure(open_town + (end, 2), (1, 2), g), True)
            self.assertIs(is_sure(open_town + (end - 1, 2), (1, 2), g), False)

    def test_not_sure_for_0(self):
        for town in (LATE, LATE_HOME):
            self.assertEqual([is_sure(town, (1,), g) for g in range(4)], [False] * 4)

    def test_huge_budgets(self):
        self.assertIs(is_sure(TOWN, (2, 1), 10 ** 39), True)
        self.assertIs(is_sure(TOWN, (1, 2), 10 ** 39), False)


class Judged(unittest.TestCase):
    def test_right_and_of_one_kind(self):
        kinds = set()
        for town, tour in small_rounds(120):
            for g in range(len(tour) + 3):
                found = judge_sure(town, tour, g)
                broken_by = attacks(town, tour, g)
                self.assertIs(sure_holds(town, tour, g, found), True)
                kinds.add(found[0])
                if broken_by:
                    self.assertEqual((found[0], len(found)), ("attack", 3))
                    self.assertIn(found[1:], broken_by)
                else:
                    self.assertEqual((found[0], len(found)), ("sure", 2))
                    self.assertTrue(is_right_table(town, tour, g, found[1]))
        self.assertEqual(kinds, {"sure", "attack"})

    def test_without_late_legs(self):
        self.assertEqual(judge_sure(LATE, (1,), 0), ("attack", (), 0))
        self.assertEqual(judge_sure(LATE_HOME, (1,), 0), ("attack", (), 1))
        self.assertEqual(judge_sure(LATE, (1,), 3)[2], 0)

    def test_attacks_in_spite_of_waiting(self):
        for end, g in ((18, 1), (20, 2), (21, 3)):
            town = SWALLOW[:2] + (end, 0)
            found = judge_sure(town, (1, 2), g)
            self.assertIn(found[1:], attacks(town, (1, 2), g))
            self.assertIs(is_sure(town, (1, 2), g - 1), True)

    def test_late_by_1_alone(self):
        # Of three legs one can be late, by 1, and home must be reached just in time.
        for late in range(3):
            legs = tuple(ends + (2, 2 + (k == late), 0) for k, ends in enumerate(((0, 1), (1, 2), (2, 0))))
            town = (((0, 9, 1, 0, 0, 0), (0, 9, 1, 0, 0, 0)), legs, 8, 0)
            self.assertEqual(judge_sure(town, (1, 2), 0)[0], "sure")
            for g in (1, 2, 5):
                found = judge_sure(town, (1, 2), g)
                self.assertIs(sure_holds(town, (1, 2), g, found), True)
                self.assertEqual((found[0], found[2]), ("attack", 2))
                self.assertIn(late, found[1])

    def test_six_places(self):
        for tour in ((1,), (3, 1, 2), (6, 5, 4, 3, 2, 1), (1, 2, 3, 4, 5, 6)):
            for g in range(9):
                found = judge_sure(SIX, tour, g)
                self.assertIs(sure_holds(SIX, tour, g, found), True)
                self.assertEqual(found[0] == "sure", is_sure(SIX, tour, g))

    def test_the_tables_fit_the_budget(self):
        for g in range(12):
            kind, table = judge_sure(TOWN, (2, 1), g)
            self.assertEqual((kind, [len(row) for row in table]), ("sure", [g + 1] * 3))


class Strength(unittest.TestCase):
    def test_by_definition(self):
        found = set()
        for town, tour in small_rounds(120):
            sure = [g for g in range(len(tour) + 2) if not attacks(town, tour, g)]
            self.assertEqual(strength(town, tour), sure[-1] if sure else None)
            found.add((len(tour), strength(town, tour)))
        self.assertLessEqual({(1, None), (1, 0), (1, 1), (1, 2), (2, 0), (2, 3), (3, 4)}, found)

    def test_none_and_0_and_all_legs(self):
        self.assertIsNone(strength(LATE, (1,)))
        self.assertIsNone(strength(LATE_HOME, (1,)))
        self.assertEqual(strength((((0, 4, 0, 0, 0, 0),), ((0, 1, 4, 5, 0), (1, 0, 0, 0, 0)), 9, 0), (1,)), 0)
        self.assertEqual(strength(STILL, (1,)), 2)
        self.assertEqual(strength(SIX, (1,)), 2)
        self.assertIsInstance(strength(STILL, (1,)), int)

    def test_windows_one_by_one(self):
        open_town = (((0, 9, 1, 1, 0, 5), (4, 8, 1, 1, 0, 5)),) + TOWN[1:2]
        found = [strength(open_town + (end, 2), (1, 2)) for end in range(7, 16)]
        self.assertEqual(found, [None, 0, 0, 1, 1, 2, 2, 3, 3])


class Errors(unittest.TestCase):
    def test_bad_budget(self):
        odd_budgets = [odd for odd in ODD if not isinstance(odd, int)] + [True, False, -1, -10 ** 39, [1], (1,), "1"]
        for odd in odd_budgets:
            for function in BUDGETS:
                with self.assertRaises(BadBudget) as caught:
                    function(TOWN, (1, 2), odd)
                self.assertIs(caught.exception.thing, odd)

    def test_bad_round_is_ahead_of_bad_budget(self):
        for odd in (*ODD, (1, 1), (3,), (0,), [1, 2], (True, 2), "12", (1, None)):
            for function in (*BUDGETS, lambda town, tour, g: strength(town, tour)):
                for g in (0, 1, None, True, -1):
                    with self.assertRaises(BadRound) as caught:
                        function(TOWN, odd, g)
                    self.assertIs(caught.exception.thing, odd)

    def test_bad_town_is_ahead_of_all(self):
        for odd in (*ODD, *with_lists(ONE), *with_bools(ONE), TOWN[:3]):
            for function in (*BUDGETS, lambda town, tour, g: strength(town, tour)):
                for tour, g in (((1,), 0), (None, None), ((9,), -1)):
                    with self.assertRaises(BadTown) as caught:
                        function(odd, tour, g)
                    self.assertIs(caught.exception.thing, odd)

    def test_rounds_of_the_town_of_the_call(self):
        for function in (*BUDGETS, lambda town, tour, g: strength(town, tour)):
            for town in (EMPTY, ONE, TOWN[:3] + (1,)):
                with self.assertRaises(BadRound) as caught:
                    function(town, (1, 2), 1)
                self.assertEqual(caught.exception.thing, (1, 2))

    def test_bounds_are_used_as_they_are(self):
        self.assertEqual(bounds(TOWN, (1, 2)), [9, 7, 20])


if __name__ == "__main__":
    unittest.main()
