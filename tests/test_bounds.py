"""What plan_holds takes for a certificate, and what not."""

import unittest
from random import Random

from latebyfew.plans import judge_plan, plan_holds
from latebyfew.rounds import rounds
from reference_labels import is_plan_certificate_by_words, sure_plans
from samples import EMPTY, ODD, ONE, PAIR, random_town, resized, roomy_town, with_bools, with_lists

TOWNS = (PAIR, ONE, *[random_town(seed) for seed in range(12)], *[roomy_town(seed, 2 + seed % 2) for seed in range(8)])


def cases():
    for k, town in enumerate(TOWNS):
        for vans in (1, 2):
            yield town, k % 3, vans, judge_plan(town, k % 3, vans)


def with_bound(thing, at, bound):
    """The certificate with another bound in its triple at that position."""
    table = thing[-1]
    return (*thing[:-1], table[:at] + ((*table[at][:2], bound),) + table[at + 1:])


class Bounds(unittest.TestCase):
    def check(self, town, g, vans, thing):
        expected = is_plan_certificate_by_words(town, g, vans, thing)
        self.assertIs(plan_holds(town, g, vans, thing), expected, (town, g, vans, thing))
        return expected

    def test_a_bound_changed(self):
        answers = [0, 0]
        for town, g, vans, thing in cases():
            for at, (_, _, bound) in enumerate(thing[-1]):
                others = [None, 0, 1, 1000, -1000] + ([] if bound is None else [bound - 1, bound + 1])
                for other in others:
                    answers[self.check(town, g, vans, with_bound(thing, at, other))] += 1
        self.assertGreater(min(answers), 100)

    def test_several_bounds_changed(self):
        draw = Random(6)
        answers = [0, 0]
        for town, g, vans, thing in cases():
            for _ in range(30):
                other = thing
                for _ in range(draw.randint(2, 4)):
                    at = draw.randrange(len(thing[-1]))
                    bound = thing[-1][at][2]
                    if bound is not None and thing[-1][at][0]:
                        other = with_bound(other, at, bound - draw.randint(-1, 3))
                answers[self.check(town, g, vans, other)] += 1
        self.assertGreater(min(answers), 100)

    def test_one_too_high(self):
        # The least cost of each set of places is 9 or less; one more is not let.
        thing = judge_plan(PAIR, 0, 1)
        self.assertEqual(thing, ("plan", ((1, 2),), (((), 0, 0), ((), 1, 0), ((1,), 0, None), ((1,), 1, 6),
                                                     ((1, 2), 0, None), ((1, 2), 1, 9), ((2,), 0, None), ((2,), 1, 8))))
        for at, by, expected in ((3, 1, False), (3, -1, True), (3, -99, True), (5, 1, False), (5, -1, False),
                                 (7, 1, False), (7, -1, True)):
            self.assertIs(plan_holds(PAIR, 0, 1, with_bound(thing, at, thing[2][at][2] + by)), expected, (at, by))
        for at in (0, 1):
            for bound in (1, -1, None, False):
                self.assertIs(plan_holds(PAIR, 0, 1, with_bound(thing, at, bound)), False)
        for at in (3, 5, 7):
            self.assertIs(plan_holds(PAIR, 0, 1, with_bound(thing, at, None)), False)

    def test_any_bound_for_the_number_0(self):
        for vans in (0, 1, 2):
            for thing in (judge_plan(ONE, 1, vans), judge_plan((PAIR[0], PAIR[1], 3, 2), 1, vans)):
                town = ONE if len(thing[-1]) == 2 * (vans + 1) else (PAIR[0], PAIR[1], 3, 2)
                self.assertIs(plan_holds(town, 1, vans, thing), True)
                for at, (places, number, _) in enumerate(thing[-1]):
                    if places and number == 0:
                        for bound in (None, 0, -7, 10 ** 39, -10 ** 39):
                            # With no vans at all it is the bound that counts.
                            whole = vans == 0 and len(places) == len(town[0])
                            self.assertIs(plan_holds(town, 1, vans, with_bound(thing, at, bound)),
                                          not whole or bound is None)
                        for bound in (True, "1", (), [], {}):
                            self.assertIs(plan_holds(town, 1, vans, with_bound(thing, at, bound)), False)

    def test_none_where_a_plan_goes_on(self):
        for town, g, vans, thing in cases():
            self.assertIs(plan_holds(town, g, vans, ("none", thing[-1])), thing[0] == "none")
            table = tuple((places, number, None if places else 0) for places, number, _ in thing[-1])
            self.assertIs(self.check(town, g, vans, ("none", table)), is_plan_certificate_by_words(
                town, g, vans, ("none", table)))

    def test_all_plans_in_its_place(self):
        answers = [0, 0]
        for town, g, vans, thing in cases():
            for plan in sure_plans(town, dict.fromkeys(rounds(town), 0)):
                answers[self.check(town, g, vans, ("plan", plan, thing[-1]))] += 1
        self.assertGreater(min(answers), 10)

    def test_other_plans(self):
        thing = judge_plan(PAIR, 0, 2)
        self.assertEqual(thing[1], ((1, 2),))
        for plan in (((2, 1),), ((1,), (2,)), ((2,), (1,)), ((1,),), (), ((1, 2), (1, 2)), [(1, 2)], ((1, 2), ()), None):
            self.assertIs(plan_holds(PAIR, 0, 2, (thing[0], plan, thing[2])), False, plan)
        apart = (PAIR[0], tuple((*leg[:4], 99 if 0 not in leg[:2] else 1) for leg in PAIR[1]), 20, 2)
        thing = judge_plan(apart, 0, 2)
        self.assertEqual(thing[1], ((1,), (2,)))
        self.assertIs(plan_holds(apart, 0, 2, thing), True)
        self.assertIs(plan_holds(apart, 0, 2, (thing[0], ((2,), (1,)), thing[2])), False)
        # Too many rounds for one van, though the bound is their cost.
        one = judge_plan(apart, 0, 1)
        self.assertEqual(one[1], ((1, 2),))
        self.assertIs(plan_holds(apart, 0, 1, ("plan", ((1,), (2,)), with_bound(one, 5, 4)[2])), False)
        self.assertIs(plan_holds(apart, 0, 1, ("plan", ((1, 2),), with_bound(one, 5, 4)[2])), False)

    def test_another_budget_or_number(self):
        thing = judge_plan(PAIR, 0, 1)
        self.assertEqual([plan_holds(PAIR, g, 1, thing) for g in range(4)], [True, False, False, False])
        self.assertEqual([plan_holds(PAIR, 0, vans, thing) for vans in (0, 1, 2, 10 ** 39)], [False, True, False, False])
        # The table for a lesser budget has bounds that are low enough, but no plan.
        sure = judge_plan(PAIR, 1, 1)
        self.assertIs(plan_holds(PAIR, 1, 1, ("plan", sure[1], thing[2])), False)


class Forms(unittest.TestCase):
    def test_triples_left_out_twice_or_out_of_order(self):
        for vans in (0, 1, 2):
            thing = judge_plan(PAIR, 0, vans)
            table = thing[-1]
            for k in range(len(table)):
                for other in (table[:k] + table[k + 1:], table[:k] + table[k:k + 1] + table[k:],
                              table[:k] + table[k:k + 2][::-1] + table[k + 2:], table[k:] + table[:k]):
                    self.assertIs(plan_holds(PAIR, 0, vans, (*thing[:-1], other)), other == table)
            for extra in (((1, 2), vans + 1, 0), ((3,), 0, 0), ((), -1, 0), ((2, 1), 0, 0), ((0,), 0, 0)):
                self.assertIs(plan_holds(PAIR, 0, vans, (*thing[:-1], table + (extra,))), False)
                self.assertIs(plan_holds(PAIR, 0, vans, (*thing[:-1], tuple(sorted(
                    table + (extra,), key=lambda row: row[:2])))), False)

    def test_bools_lists_and_sizes(self):
        for town, vans in ((ONE, 1), (EMPTY, 1), (ONE, 0)):
            thing = judge_plan(town, 0, vans)
            self.assertIs(plan_holds(town, 0, vans, thing), True)
            for other in (*with_bools(thing), *with_lists(thing), *resized(thing)):
                self.assertIs(plan_holds(town, 0, vans, other), False, other)

    def test_odd_values(self):
        thing = judge_plan(PAIR, 0, 1)
        for odd in (*ODD, thing[:2], thing + (1,), thing[2], "plan", "none", ("none",), ("plan",), [*thing], PAIR):
            self.assertIs(plan_holds(PAIR, 0, 1, odd), False)
            for k in range(3):
                other = thing[:k] + (odd,) + thing[k + 1:]
                self.assertIs(plan_holds(PAIR, 0, 1, other), other == thing)
            self.assertIs(plan_holds(PAIR, 0, 1, ("none", odd)), False)
            for at in range(8):
                table = thing[2]
                self.assertIs(plan_holds(PAIR, 0, 1, (*thing[:2], table[:at] + (odd,) + table[at + 1:])), False)
                for k in (0, 1):
                    triple = table[at][:k] + (odd,) + table[at][k + 1:]
                    other = (*thing[:2], table[:at] + (triple,) + table[at + 1:])
                    same = repr(odd) == repr(table[at][k])
                    self.assertIs(plan_holds(PAIR, 0, 1, other), same, other)
        for word in ("Plan", "none", "least", "", None, 1):
            self.assertIs(plan_holds(PAIR, 0, 1, (word, *thing[1:])), False)
        none = judge_plan(PAIR, 0, 0)
        for word in ("plan", "None", "", None):
            self.assertIs(plan_holds(PAIR, 0, 0, (word, none[1])), False)


if __name__ == "__main__":
    unittest.main()
