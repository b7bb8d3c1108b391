"""Closed tables, the certificates of the least reduced cost, and what prices say of plans."""

import unittest
from random import Random

from latebyfew.errors import BadBudget, BadNumber, BadPrices, BadTown
from latebyfew.labels import is_label, judge_least, label_of, least_holds, price_bound
from latebyfew.rounds import rounds
from latebyfew.sure import is_sure
from reference import attacks
from reference_labels import all_paths, closed_by_words, dominates_by_words, is_closed_by_words, is_least_by_words
from reference_labels import reduced, sure_costs, sure_plans
from samples import EMPTY, ODD, ONE, PAIR, TOWN, full_town, random_town, resized, roomy_town, with_bools, with_lists

TOWNS = (TOWN, PAIR, ONE, EMPTY, *[random_town(seed) for seed in range(25)],
         *[roomy_town(seed, 2 + seed % 3) for seed in range(12)])
FIVE = [roomy_town(seed, 5) for seed in range(4)]


def prices_for(town, seed):
    draw = Random(seed)
    most = draw.choice((5, 20, 200))
    return tuple(draw.randint(-most, most) for _ in town[0])


def all_labels(town, g, prices):
    """The labels of all open paths."""
    found = [label_of(town, g, prices, path) for path in all_paths(town)]
    return tuple(label for label in found if label is not None)


def with_table(thing, table):
    return (*thing[:-1], table)


def cases():
    """Towns with budgets and prices."""
    for k, town in enumerate(TOWNS):
        for g in (k % 3, 3 + k % 2):
            yield town, g, prices_for(town, k + g)


def label_changed(label, k, by):
    """A label with one number changed, the last of its times if k is 2."""
    if k == 2:
        return (*label[:2], (*label[2][:-1], label[2][-1] + by), *label[3:])
    return (*label[:k], label[k] + by, *label[k + 1:])


class Judged(unittest.TestCase):
    def check(self, town, g, prices):
        """Whether what is returned is right; its kind."""
        found = judge_least(town, g, prices)
        self.assertIs(least_holds(town, g, prices, found), True)
        self.assertTrue(is_least_by_words(town, g, prices, found))
        self.assertLessEqual(len(found[-1]), 325)
        sure = [tour for tour in rounds(town) if is_sure(town, tour, g)]
        self.assertEqual(found[0], "least" if sure else "none")
        if sure:
            self.assertEqual(reduced(town, prices, found[1]), min(reduced(town, prices, tour) for tour in sure))
        return found[0]

    def test_the_example(self):
        self.assertEqual(judge_least(PAIR, 1, (6, 6))[:2], ("least", (2, 1)))
        self.assertEqual(price_bound(PAIR, 1, 1, (6, 6)), 11)

    def test_small_towns(self):
        self.assertEqual({self.check(*case) for case in cases()}, {"least", "none"})

    def test_five_places(self):
        for k, town in enumerate(FIVE):
            for g in (0, 2, 4):
                self.check(town, g, prices_for(town, k))

    def test_at_most_325_labels(self):
        # Every row of different places is an open path, and longer ones cost less.
        town = full_town(5)
        wide = (tuple((0, 99, 0, 0, 0, 0) for _ in town[0]), tuple(leg[:2] + (0, 0, 0) for leg in town[1]), 99, 0)
        for prices in ((0,) * 5, (-1,) * 5, (1,) * 5, (200, 100, 50, 25, 12)):
            for g in (0, 4):
                for each in (town, wide):
                    found = judge_least(each, g, prices)
                    self.assertLessEqual(len(found[-1]), 325)
                    self.assertIs(least_holds(each, g, prices, found), True)

    def test_no_places(self):
        for g in range(5):
            self.assertEqual(judge_least(EMPTY, g, ()), ("none", ()))
            self.assertIs(least_holds(EMPTY, g, (), ("none", ())), True)
            self.assertIs(least_holds(EMPTY, g, (), ("least", (), ())), False)

    def test_open_paths_but_no_way_home(self):
        town = (PAIR[0], tuple(leg for leg in PAIR[1] if leg[1]), 20, 2)
        found = judge_least(town, 1, (0, 0))
        self.assertEqual(found[0], "none")
        self.assertTrue(found[1])
        self.assertIs(least_holds(town, 1, (0, 0), found), True)
        self.assertIs(least_holds(town, 1, (0, 0), ("none", ())), False)


class Certificates(unittest.TestCase):
    def check(self, town, g, prices, thing):
        """Whether least_holds says what the words of the document say; the answer."""
        expected = is_least_by_words(town, g, prices, thing)
        self.assertIs(least_holds(town, g, prices, thing), expected, (town, g, prices, thing))
        return expected

    def test_longer_tables(self):
        for town, g, prices in cases():
            found = judge_least(town, g, prices)
            full = all_labels(town, g, prices)
            for table in (full, full + found[-1], found[-1] * 2, full[::-1], found[-1] + full[:3]):
                self.assertIs(self.check(town, g, prices, with_table(found, table)), True)

    def test_a_label_left_out(self):
        answers = [0, 0]
        for town, g, prices in cases():
            found = judge_least(town, g, prices)
            for table in (found[-1], all_labels(town, g, prices)):
                for k in range(len(table)):
                    answers[self.check(town, g, prices, with_table(found, table[:k] + table[k + 1:]))] += 1
        self.assertGreater(min(answers), 100)

    def test_a_number_changed(self):
        answers = [0, 0]
        for town, g, prices in list(cases())[::2]:
            found = judge_least(town, g, prices)
            table = found[-1]
            for at, label in enumerate(table):
                for k in (2, 3, 4, 5):
                    for by in (-1, 1, -7):
                        other = label_changed(label, k, by)
                        if is_label(town, g, other):
                            thing = with_table(found, table[:at] + (other,) + table[at + 1:])
                            answers[self.check(town, g, prices, thing)] += 1
        self.assertGreater(min(answers), 100)

    def test_a_visited_place_changed(self):
        answers = [0, 0]
        for town, g, prices in cases():
            found = judge_least(town, g, prices)
            table = found[-1]
            for at, label in enumerate(table):
                for place in range(1, len(town[0]) + 1):
                    visited = tuple(sorted({*label[1]} ^ {place}))
                    other = (label[0], visited, *label[2:])
                    if is_label(town, g, other):
                        thing = with_table(found, table[:at] + (other,) + table[at + 1:])
                        answers[self.check(town, g, prices, thing)] += 1
        self.assertGreater(min(answers), 20)

    def test_labels_of_no_path_in_the_table(self):
        # What dominates more than it should need to is let, if all that follows is dominated, too.
        town = (((0, 10, 0, 0, 0, 0), (0, 10, 0, 0, 0, 0)), ((0, 1, 5, 5, 4), (1, 0, 5, 5, 4), (1, 2, 1, 1, 1)), 20, 0)
        right = ("least", (1,), ((1, (1,), (5,), 0, 0, 4), (2, (1, 2), (6,), 0, 0, 5)))
        self.assertIs(self.check(town, 0, (0, 0), right), True)
        early = ("least", (1,), ((1, (1,), (0,), 0, 0, 4), (2, (2,), (1,), 0, 0, 5)))
        self.assertIs(self.check(town, 0, (0, 0), early), True)
        cheap = ("least", (1,), ((1, (1,), (5,), 0, 0, 3), (2, (1, 2), (6,), 0, 0, 4)))
        self.assertIs(self.check(town, 0, (0, 0), cheap), False)
        late = ("least", (1,), ((1, (1,), (6,), 0, 0, 4), (2, (1, 2), (6,), 0, 0, 5)))
        self.assertIs(self.check(town, 0, (0, 0), late), False)
        # A label that cannot be closed need not cost much.
        stray = ("least", (1,), right[2] + ((1, (1, 2), (16,), 0, 0, -99),))
        self.assertIs(self.check(town, 0, (0, 0), stray), True)
        self.assertIs(self.check(town, 0, (0, 0), with_table(stray, right[2] + ((1, (1, 2), (15,), 9, 9, 3),))), False)
        self.assertIs(self.check(town, 0, (0, 0), with_table(stray, right[2] + ((1, (1, 2), (15,), 9, 9, 4),))), True)

    def test_just_below_the_reduced_cost(self):
        for town, g, prices in cases():
            found = judge_least(town, g, prices)
            if found[0] == "none":
                continue
            least = reduced(town, prices, found[1])
            for label in found[2]:
                closed = closed_by_words(town, label)
                if closed is None:
                    continue
                for by, expected in ((least - closed, True), (least - closed - 1, False)):
                    extra = label_changed((label[0], tuple(range(1, len(town[0]) + 1)), *label[2:]), 5, by)
                    self.assertIs(self.check(town, g, prices, with_table(found, found[2] + (extra,))), expected)

    def test_none_though_a_label_can_be_closed(self):
        for town, g, prices in cases():
            found = judge_least(town, g, prices)
            self.assertIs(least_holds(town, g, prices, ("none", found[-1])), found[0] == "none")
            self.assertIs(least_holds(town, g, prices, ("none", all_labels(town, g, prices))), found[0] == "none")

    def test_all_rounds_in_its_place(self):
        answers = [0, 0]
        for town, g, prices in cases():
            table = judge_least(town, g, prices)[-1]
            for tour in rounds(town):
                thing = ("least", tour, table)
                answers[self.check(town, g, prices, thing)] += 1
                if attacks(town, tour, g):
                    self.assertIs(least_holds(town, g, prices, thing), False)
            for tour in ((), (1, 1), (len(town[0]) + 1,), (0,), [1], None, 1, (True,), "1"):
                self.assertIs(least_holds(town, g, prices, ("least", tour, table)), False)
        self.assertGreater(min(answers), 30)

    def test_other_prices_and_budgets(self):
        found = judge_least(PAIR, 1, (6, 6))
        for g in (0, 2, 3):
            self.assertIs(least_holds(PAIR, g, (6, 6), found), False)
        for prices in ((7, 6), (6, 7), (5, 6), (6, 5), (0, 0), (60, 60)):
            self.assertIs(least_holds(PAIR, 1, prices, found), is_least_by_words(PAIR, 1, prices, found))

    def test_every_closed_table_covers_all_open_paths(self):
        for town, g, prices in cases():
            table = judge_least(town, g, prices)[-1]
            self.assertTrue(is_closed_by_words(town, g, prices, table))
            for label in all_labels(town, g, prices):
                self.assertTrue(any(dominates_by_words(one, label) for one in table))


class OtherValues(unittest.TestCase):
    def test_bools_lists_and_sizes(self):
        town = (((0, 1, 0, 1, 0, 1),), ((0, 1, 0, 1, 1), (1, 0, 0, 1, 0)), 1, 1)
        thing = judge_least(town, 0, (0,))
        self.assertEqual(thing, ("least", (1,), ((1, (1,), (0,), 0, 1, 1),)))
        for other in (*with_bools(thing), *with_lists(thing)):
            self.assertIs(least_holds(town, 0, (0,), other), False, other)
        for other in resized(thing):
            expected = other == ("least", (1,), thing[2] * 2)
            self.assertIs(least_holds(town, 0, (0,), other), expected, other)

    def test_odd_values(self):
        thing = judge_least(PAIR, 1, (6, 6))
        for odd in (*ODD, thing[:2], thing + (1,), thing[2], "least", "none", ("none",), ("least",), [*thing]):
            self.assertIs(least_holds(PAIR, 1, (6, 6), odd), False)
            for k in range(3):
                other = thing[:k] + (odd,) + thing[k + 1:]
                self.assertIs(least_holds(PAIR, 1, (6, 6), other), other == thing)
            self.assertIs(least_holds(PAIR, 1, (6, 6), ("none", odd)), False)
            self.assertIs(least_holds(PAIR, 1, (6, 6), with_table(thing, thing[2] + (odd,))), False)
            self.assertIs(least_holds(PAIR, 1, (6, 6), with_table(thing, (odd,) + thing[2])), False)
        for word in ("Least", "none", "plan", "", None, 1, ("least",)):
            self.assertIs(least_holds(PAIR, 1, (6, 6), (word, *thing[1:])), False)
        for word in ("None", "least", "", None, ("none",)):
            self.assertIs(least_holds(EMPTY, 1, (), (word, ())), False)


class PriceBounds(unittest.TestCase):
    def test_against_all_plans(self):
        many = tight = 0
        for town in TOWNS:
            for g in (0, 1, 2, 4):
                costs = sure_costs(town, g)
                plans = sure_plans(town, costs)
                for seed in range(6):
                    prices = prices_for(town, seed) if seed else (4,) * len(town[0])
                    least = min((reduced(town, prices, tour) for tour in costs), default=None)
                    for vans in range(5):
                        bound = price_bound(town, g, vans, prices)
                        fit = [sum(costs[tour] for tour in plan) for plan in plans if len(plan) <= vans]
                        if not town[0]:
                            self.assertEqual(bound, 0)
                        elif not costs:
                            self.assertIsNone(bound)
                            self.assertEqual(plans, [])
                        else:
                            self.assertEqual(bound, sum(prices) + vans * min(0, least))
                            self.assertTrue(all(cost >= bound for cost in fit))
                            many += len(fit)
                            tight += bound in fit
        self.assertGreater(many, 1000)
        self.assertGreater(tight, 10)

    def test_no_places_and_no_sure_round(self):
        for g in (0, 3, 10 ** 39):
            for vans in (0, 1, 9, 10 ** 39):
                self.assertEqual(price_bound(EMPTY, g, vans, ()), 0)
                self.assertIsNone(price_bound((PAIR[0], PAIR[1], 3, 2), g, vans, (5, 5)))

    def test_vans(self):
        self.assertEqual([price_bound(PAIR, 1, vans, (6, 6)) for vans in (0, 1, 2, 9)], [12, 11, 10, 3])
        self.assertEqual([price_bound(PAIR, 1, vans, (1, 1)) for vans in (0, 1, 9)], [2, 2, 2])
        self.assertEqual(price_bound(PAIR, 1, 2, (-200, 200)), -2 * 192)


class Errors(unittest.TestCase):
    def test_bad_town(self):
        for odd in (*ODD, TOWN[:3]):
            for call in ((judge_least, (None, None)), (least_holds, (None, None, None)), (price_bound, (None,) * 3)):
                with self.assertRaises(BadTown) as caught:
                    call[0](odd, *call[1])
                self.assertIs(caught.exception.thing, odd)

    def test_bad_budget(self):
        for odd in (None, True, False, -1, "1", (1,), [1], {}):
            for call in ((judge_least, (None,)), (least_holds, (None, None)), (price_bound, (None, None))):
                with self.assertRaises(BadBudget) as caught:
                    call[0](PAIR, odd, *call[1])
                self.assertIs(caught.exception.thing, odd)

    def test_bad_number_is_ahead_of_bad_prices(self):
        for odd in (None, True, False, -1, "1", (1,), [1], {}):
            for prices in ((0, 0), None):
                with self.assertRaises(BadNumber) as caught:
                    price_bound(PAIR, 1, odd, prices)
                self.assertIs(caught.exception.thing, odd)

    def test_bad_prices(self):
        for odd in (None, (), (0,), (0, 0, 0), [0, 0], (0, True), (False, 0), (0, "0"), (None, 0), 0, "00", {}):
            for call in ((judge_least, (PAIR, 1, odd)), (least_holds, (PAIR, 1, odd, None)),
                         (price_bound, (PAIR, 1, 1, odd))):
                with self.assertRaises(BadPrices) as caught:
                    call[0](*call[1])
                self.assertIs(caught.exception.thing, odd)
        with self.assertRaises(BadPrices):
            price_bound(EMPTY, 1, 1, (0,))


if __name__ == "__main__":
    unittest.main()
