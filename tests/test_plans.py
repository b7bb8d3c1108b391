"""Plans, their least costs, the staircase and the price of sureness."""

import unittest
from itertools import product

from latebyfew.errors import BadBudget, BadNumber, BadPlan, BadTown
from latebyfew.plans import is_plan, is_sure_plan, judge_plan, plan_attack, plan_cost, plan_holds, staircase, sureness
from latebyfew.rounds import rounds
from reference import attacks
from reference_labels import is_plan_certificate_by_words, least_plan_cost, sure_costs, sure_plans
from samples import EMPTY, LAST, ODD, ONE, PAIR, TOWN, full_town, random_town, roomy_town, with_bools, with_lists

# The more rounds, the less they cost: legs between places are dear. A round has room for two places.
STAR = (
    tuple((0, 99, 0, 1, 0, 0) for _ in range(4)),
    tuple((a, b, 1, 2, 50 + a + b if a and b else 1) for a in range(5) for b in range(5) if a != b),
    99,
    2,
)
TOWNS = (TOWN, PAIR, ONE, EMPTY, STAR, LAST, *[random_town(seed) for seed in range(20)],
         *[roomy_town(seed, 2 + seed % 3) for seed in range(24)])
STEEP = [(PAIR[0], PAIR[1], end, 2) for end in range(10, 16)]
FIVE = [roomy_town(seed, 5) for seed in range(3)]
LATE = (PAIR[0], PAIR[1], 3, 2)


def all_plans(town):
    """All plans of a town, sure or not."""
    return sure_plans(town, dict.fromkeys(rounds(town), 0))


class Plans(unittest.TestCase):
    def test_all_rows_of_rounds(self):
        for town in TOWNS[:14]:
            tours = rounds(town)
            if len(tours) > 12:
                continue
            plans = all_plans(town)
            for many in range(4):
                for row in product(tours, repeat=many):
                    self.assertIs(is_plan(town, row), row in plans)

    def test_a_place_twice_or_not_at_all(self):
        for thing, expected in ((((1, 2),), True), (((2, 1),), True), (((1,), (2,)), True), (((2,), (1,)), False),
                                (((1,),), False), (((2,),), False), (((1,), (1,), (2,)), False),
                                (((1,), (1, 2)), False), (((1, 2), (2,)), False), (((1, 2), (1, 2)), False), ((), False),
                                (((1,), (2,), (3,)), False), (((),), False), (((1, 2), ()), False)):
            self.assertIs(is_plan(PAIR, thing), expected, thing)

    def test_without_places(self):
        for thing, expected in (((), True), (((),), False), ([], False), (((1,),), False), (None, False)):
            self.assertIs(is_plan(EMPTY, thing), expected)
        self.assertEqual([plan_cost(EMPTY, ()), is_sure_plan(EMPTY, 3, ()), plan_attack(EMPTY, 3, ())], [0, True, None])

    def test_other_values(self):
        for odd in (*ODD, ((1, True),), ((True, 2),), [(1, 2)], ([1, 2],), ((1,), [2]), "12", ((1,), 2), (1, 2),
                    {(1, 2): 1}, ((1, 2), None), (None, (1, 2)), ((1, 2), 5)):
            self.assertIs(is_plan(PAIR, odd), False, odd)

    def test_loads_count(self):
        full = (PAIR[0], PAIR[1], 20, 1)
        self.assertEqual([is_plan(full, plan) for plan in (((1,), (2,)), ((1, 2),))], [True, False])

    def test_costs(self):
        for town in TOWNS:
            for plan in all_plans(town):
                legs = {leg[:2]: leg[4] for leg in town[1]}
                expected = sum(legs[ends] for tour in plan for ends in zip((0, *tour), (*tour, 0)))
                self.assertEqual(plan_cost(town, plan), expected)

    def test_the_examples(self):
        self.assertEqual(
            [judge_plan(PAIR, 1, 1)[:2], plan_cost(PAIR, ((1, 2),)), is_sure_plan(PAIR, 0, ((1, 2),)),
             plan_attack(PAIR, 1, ((1, 2),))[::2], staircase(PAIR, 1), sureness(PAIR, 1, 0, 1),
             judge_plan(PAIR, 0, 0)[0]],
            [("plan", ((2, 1),)), 9, True, (0, 1), (9, 11, 11, 11), 2, "none"])


class Attacks(unittest.TestCase):
    def test_the_first_round_with_an_attack(self):
        positions = set()
        for town in TOWNS:
            for g in (0, 1, 2, 3, 6):
                for plan in all_plans(town):
                    found = plan_attack(town, g, plan)
                    broken = [k for k, tour in enumerate(plan) if attacks(town, tour, g)]
                    self.assertIs(is_sure_plan(town, g, plan), not broken)
                    if not broken:
                        self.assertIsNone(found)
                        continue
                    self.assertIsInstance(found, tuple)
                    self.assertEqual((len(found), found[0]), (3, broken[0]))
                    self.assertIn(found[1:], attacks(town, plan[broken[0]], g))
                    positions.add(broken[0])
        self.assertLessEqual({0, 1, 2}, positions)

    def test_great_budgets(self):
        self.assertEqual(plan_attack(PAIR, 10 ** 39, ((1, 2),))[0], 0)
        self.assertIs(is_sure_plan(PAIR, 10 ** 39, ((2, 1),)), True)


class Judged(unittest.TestCase):
    def check(self, town, g, vans):
        found = judge_plan(town, g, vans)
        self.assertIs(plan_holds(town, g, vans, found), True)
        self.assertTrue(is_plan_certificate_by_words(town, g, vans, found))
        least = least_plan_cost(town, g, vans)
        self.assertEqual(found[0], "none" if least is None else "plan")
        if least is not None:
            self.assertEqual(plan_cost(town, found[1]), least)
            self.assertLessEqual(len(found[1]), vans)
        self.assertEqual(len(found[-1]), 2 ** len(town[0]) * (vans + 1))
        return found[0]

    def test_small_towns(self):
        found = {(self.check(town, g, vans), vans) for town in TOWNS for g in (0, 1, 3) for vans in (0, 1, 2, 5)}
        self.assertEqual(found, {(kind, vans) for kind in ("plan", "none") for vans in (0, 1, 2, 5)})

    def test_five_places(self):
        for town in FIVE:
            for g, vans in ((0, 5), (1, 2), (6, 5), (2, 1)):
                self.check(town, g, vans)

    def test_no_places(self):
        for g in (0, 4):
            for vans in (0, 1, 4):
                table = tuple(((), number, 0) for number in range(vans + 1))
                self.assertEqual(judge_plan(EMPTY, g, vans), ("plan", (), table))
                self.assertIs(plan_holds(EMPTY, g, vans, ("plan", (), table)), True)
                self.assertIs(plan_holds(EMPTY, g, vans, ("none", table)), False)

    def test_no_vans(self):
        found = judge_plan(ONE, 0, 0)
        self.assertEqual(found, ("none", (((), 0, 0), ((1,), 0, None))))
        self.assertIs(plan_holds(ONE, 0, 0, found), True)

    def test_fewer_vans_cost_no_less(self):
        for town in TOWNS:
            costs = [least_plan_cost(town, 1, vans) for vans in range(6)]
            self.assertEqual([staircase(town, vans)[1] for vans in range(6)], costs)
            rising = [cost for cost in costs if cost is not None]
            self.assertEqual(rising, sorted(rising, reverse=True))


class Staircases(unittest.TestCase):
    def test_against_all_plans(self):
        many = 0
        for town in (*TOWNS, *STEEP):
            for vans in (0, 1, 2, 3, 5):
                found = staircase(town, vans)
                expected = tuple(least_plan_cost(town, g, vans) for g in range(len(town[0]) + 2))
                self.assertEqual(found, expected)
                numbers = [cost for cost in found if cost is not None]
                self.assertEqual(list(found), sorted(numbers) + [None] * (len(found) - len(numbers)))
                many += 0 < len(numbers) < len(found)
        self.assertGreater(many, 10)

    def test_the_last_step_goes_on(self):
        for town in TOWNS:
            for g in range(len(town[0]) + 1, 8):
                self.assertEqual(staircase(town, 2)[-1], least_plan_cost(town, g, 2))

    def test_where_it_rises_a_round_breaks(self):
        rises = 0
        for town in (*TOWNS, *STEEP):
            steps = staircase(town, 3)
            for g in range(len(steps) - 1):
                if steps[g] is None or steps[g] == steps[g + 1]:
                    continue
                costs = sure_costs(town, g)
                for plan in sure_plans(town, costs):
                    if len(plan) <= 3 and sum(costs[tour] for tour in plan) == steps[g]:
                        at, legs, _ = plan_attack(town, g + 1, plan)
                        self.assertEqual((len(legs), at < len(plan)), (g + 1, True))
                        rises += 1
        self.assertGreater(rises, 10)

    def test_edges(self):
        self.assertEqual([staircase(EMPTY, vans) for vans in (0, 1, 5)], [(0, 0)] * 3)
        self.assertEqual([staircase(PAIR, vans) for vans in (0, 1, 2, 5, 10 ** 39)],
                         [(None,) * 4] + [(9, 11, 11, 11)] * 4)
        self.assertEqual(staircase(LATE, 2), (None,) * 4)
        self.assertEqual(len(staircase(full_town(5), 5)), 7)

    def test_sureness(self):
        for town in TOWNS:
            steps = staircase(town, 2)
            for g in range(7):
                for h in range(g, 7):
                    low, high = steps[min(g, len(steps) - 1)], steps[min(h, len(steps) - 1)]
                    expected = None if low is None or high is None else high - low
                    self.assertEqual(sureness(town, 2, g, h), expected)
                    if expected is not None:
                        self.assertGreaterEqual(expected, 0)

    def test_the_last_step_alone(self):
        self.assertEqual(staircase(LAST, 1), (2, 2, None))
        self.assertEqual([sureness(LAST, 1, g, h) for g, h in ((0, 1), (1, 1), (1, 2), (2, 2), (0, 9), (8, 9))],
                         [0, 0, None, None, None, None])

    def test_the_last_step_rises_to_a_number(self):
        legs = tuple((a, b, 1, 2, 1) for a in range(3) for b in range(3) if a != b)
        town = (((0, 9, 0, 0, 0, 0),) * 2, legs, 5, 0)
        self.assertEqual([staircase(town, 1), staircase(town, 2)], [(3, 3, 3, None), (3, 3, 3, 4)])
        self.assertEqual([sureness(town, 2, g, h) for g, h in ((0, 2), (2, 3), (3, 3), (3, 9), (8, 9))], [0, 1, 0, 0, 0])

    def test_sureness_at_its_edges(self):
        steep = (PAIR[0], PAIR[1], 14, 2)
        self.assertEqual([staircase(steep, 1), staircase(steep, 2)], [(9, 11, None, None), (9, 11, 14, 14)])
        self.assertEqual([sureness(steep, 1, g, h) for g, h in ((0, 1), (0, 2), (1, 6), (2, 3), (5, 5))],
                         [2, None, None, None, None])
        self.assertEqual([sureness(steep, 2, g, h) for g, h in ((0, 1), (0, 2), (1, 6), (2, 3), (5, 5))],
                         [2, 5, 3, 0, 0])
        self.assertEqual([sureness(PAIR, 1, g, g) for g in (0, 1, 6, 10 ** 39)], [0, 0, 0, 0])
        self.assertEqual([sureness(PAIR, 1, 0, h) for h in (0, 1, 6, 10 ** 39)], [0, 2, 2, 2])
        self.assertIsNone(sureness(PAIR, 0, 1, 1))


class Errors(unittest.TestCase):
    BUDGETS = (None, True, False, -1, "1", (1,), [1], {})
    PLANS = (None, (), ((1,),), ((2,), (1,)), ((1, 2), (2,)), [(1, 2)], ((1, True),), "12", {}, 1)

    def test_bad_town(self):
        calls = ((is_plan, (None,)), (plan_cost, (None,)), (is_sure_plan, (None, None)), (plan_attack, (None, None)),
                 (judge_plan, (None, None)), (plan_holds, (None,) * 3), (staircase, (None,)), (sureness, (None,) * 3))
        for odd in (*ODD, TOWN[:3], *with_lists(ONE), *with_bools(ONE)):
            for function, rest in calls:
                with self.assertRaises(BadTown) as caught:
                    function(odd, *rest)
                self.assertIs(caught.exception.thing, odd)

    def test_bad_budget(self):
        calls = ((is_sure_plan, (None,)), (plan_attack, (None,)), (judge_plan, (None,)), (plan_holds, (None, None)))
        for odd in self.BUDGETS:
            for function, rest in calls:
                with self.assertRaises(BadBudget) as caught:
                    function(PAIR, odd, *rest)
                self.assertIs(caught.exception.thing, odd)

    def test_bad_number(self):
        calls = ((judge_plan, (PAIR, 1), ()), (plan_holds, (PAIR, 1), (None,)), (staircase, (PAIR,), ()),
                 (sureness, (PAIR,), (None, None)))
        for odd in self.BUDGETS:
            for function, first, rest in calls:
                with self.assertRaises(BadNumber) as caught:
                    function(*first, odd, *rest)
                self.assertIs(caught.exception.thing, odd)

    def test_bad_plan(self):
        for odd in self.PLANS:
            for function, first in ((plan_cost, (PAIR,)), (is_sure_plan, (PAIR, 1)), (plan_attack, (PAIR, 1))):
                with self.assertRaises(BadPlan) as caught:
                    function(*first, odd)
                self.assertIs(caught.exception.thing, odd)

    def test_the_budgets_of_sureness(self):
        for odd in self.BUDGETS:
            for h in (1, None):
                with self.assertRaises(BadBudget) as caught:
                    sureness(PAIR, 1, odd, h)
                self.assertIs(caught.exception.thing, odd)
        for g, h in ((1, 0), (2, 1), (1, True), (0, False), (1, None), (0, "1"), (0, (1,)), (3, -1)):
            with self.assertRaises(BadBudget) as caught:
                sureness(PAIR, 1, g, h)
            self.assertIs(caught.exception.thing, h)


if __name__ == "__main__":
    unittest.main()
