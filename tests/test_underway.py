"""Rounds under way: standings, orders and their weights, the best order and what shows it."""

import unittest
from itertools import permutations
from random import Random

from latebyfew.errors import BadOrder, BadStanding, BadTown
from latebyfew.labels import closed_cost, is_label
from latebyfew.underway import is_standing, is_sure_order, judge_rest, rest_holds, weight_of
from reference_games import is_sure_by_words, leg_rows, orders_by_words, standing_ends, weight_by_words
from reference_labels import closed_by_words, extended_by_words
from samples import EMPTY, ODD, ONE, PAIR, TOWN, changed, full_town, random_town, resized, roomy_town
from samples import with_bools, with_lists

TOWNS = (TOWN, PAIR, ONE, EMPTY, *[random_town(seed) for seed in range(12)],
         *[roomy_town(seed, 2 + seed % 4) for seed in range(16)])


def random_standing(draw, town):
    """A standing of the town, which may leave too little time or room."""
    many = len(town[0])
    place = draw.randint(0, many)
    others = [other for other in range(1, many + 1) if other != place]
    left = tuple(draw.sample(others, draw.randint(0, len(others))))
    return (place, draw.choice((0, 0, 3, 9, 20)), draw.randint(0, 3), draw.choice((0, 0, 1, 4, 9)), left)


def standings(many, seed=0):
    draw = Random(seed)
    for k in range(many):
        town = TOWNS[k % len(TOWNS)]
        yield town, random_standing(draw, town)


def with_table(thing, table):
    return (*thing[:-1], table)


def first_label(town, standing):
    """A label before any place, from which those of one place are extended: the service there is over."""
    place, ready, budget, fetched, _ = standing
    begin = ready - (town[0][place - 1][2] if place else 0)
    return (place, (), (begin,) * (budget + 1), fetched, fetched, 0)


def dominates_alike(one, other):
    return one[:2] == other[:2] and all(a <= b for a, b in zip(one[2], other[2])) and all(
        a <= b for a, b in zip(one[3:], other[3:]))


def weights(town, standing):
    planned = standing_ends(standing[0], standing[4])
    return {ends: 8 * leg[4] + (ends not in planned) for ends, leg in leg_rows(town).items()}


def extensions(town, standing, label):
    gains = weights(town, standing)
    found = [extended_by_words(town, label, place, gains.get((label[0], place), 0)) for place in standing[4]]
    return [longer for longer in found if longer is not None]


def is_right_rest(town, standing, thing):
    """Whether a certificate for places that are left, with a table of labels, is right."""
    table = thing[-1]
    if any(set(label[1]) - set(standing[4]) for label in table):
        return False
    needed = [longer for label in (first_label(town, standing), *table) for longer in extensions(town, standing, label)]
    if not all(any(dominates_alike(one, label) for one in table) for label in needed):
        return False
    ends = []
    for label in table:
        if set(label[1]) == set(standing[4]) and closed_by_words(town, (*label[:5], 0)) is not None:
            ends.append(label[5] + weights(town, standing)[(label[0], 0)])
    if thing[0] == "none":
        return not ends
    order = thing[1]
    return (order in orders_by_words(town, standing) and is_sure_by_words(town, standing, order)
            and all(weight >= weight_by_words(town, standing, order) for weight in ends))


def all_labels(town, standing):
    """The labels of all open paths from the standing."""
    found = []
    waiting = [first_label(town, standing)]
    while waiting:
        further = extensions(town, standing, waiting.pop())
        found += further
        waiting += further
    return tuple(found)


class Standings(unittest.TestCase):
    def test_standings(self):
        for thing in ((0, 0, 0, 0, ()), (1, 5, 0, 0, (2,)), (0, 0, 0, 0, (2, 1)), (2, 10 ** 39, 4, 999, (1,))):
            self.assertIs(is_standing(PAIR, thing), True)
        self.assertIs(is_standing(EMPTY, (0, 0, 0, 0, ())), True)
        self.assertIs(is_standing(EMPTY, (1, 0, 0, 0, ())), False)
        # Nobody asks whether any leg of it is listed.
        self.assertIs(is_standing((PAIR[0], (), 20, 2), (0, 0, 0, 0, (2, 1))), True)

    def test_something_otherwise(self):
        for thing in ((3, 0, 0, 0, ()), (-1, 0, 0, 0, ()), (0, -1, 0, 0, ()), (0, 0, -1, 0, ()), (0, 0, 0, -1, ()),
                      (1, 0, 0, 0, (1,)), (1, 0, 0, 0, (2, 1)), (0, 0, 0, 0, (1, 1)), (0, 0, 0, 0, (0,)),
                      (0, 0, 0, 0, (3,)), (0, 0, 0, 0), (0, 0, 0, 0, (), ()), (0, 0, 0, (), ()), (0, 0, 0, 0, 1)):
            self.assertIs(is_standing(PAIR, thing), False, thing)
        standing = (0, 1, 1, 0, (2, 1))
        for other in (*with_bools(standing), *with_lists(standing)):
            self.assertIs(is_standing(PAIR, other), False, other)
        for other in resized(standing):
            self.assertIs(is_standing(PAIR, other), other in ((0, 1, 1, 0, (2,)), (0, 1, 1, 0, (1,))), other)
        for odd in ODD:
            self.assertIs(is_standing(PAIR, odd), False)
            for k in range(5):
                other = standing[:k] + (odd,) + standing[k + 1:]
                right = type(odd) is int and odd >= 0 and (0 < k < 4 or k == 0 and odd == 0)
                self.assertIs(is_standing(PAIR, other), right or k == 4 and type(odd) is tuple and odd == (), other)
            for other in changed((0, 5, 5, 5, (2, 1)), 2, odd):
                self.assertIs(is_standing(PAIR, other), False)


class Orders(unittest.TestCase):
    def test_over_all_days(self):
        answers = set()
        for town, standing in standings(700):
            orders = orders_by_words(town, standing)
            for order in permutations(standing[4]):
                expected = order in orders and is_sure_by_words(town, standing, order)
                self.assertIs(is_sure_order(town, standing, order), expected, (town, standing, order))
                answers.add((len(order), order in orders, expected))
                if order in orders:
                    self.assertEqual(weight_of(town, standing, order), weight_by_words(town, standing, order))
        self.assertLessEqual({(many, True, answer) for many in range(4) for answer in (True, False)}, answers)
        self.assertLessEqual({(many, False, False) for many in range(4)}, answers)

    def test_the_examples(self):
        self.assertEqual(
            [judge_rest(PAIR, (1, 5, 0, 0, (2,)))[:2], judge_rest(PAIR, (1, 5, 1, 0, (2,)))[0],
             weight_of(PAIR, (1, 5, 0, 0, (2,)), (2,)), weight_of(PAIR, (0, 0, 0, 0, (1, 2)), (2, 1))],
            [("order", (2,)), "none", 48, 91])

    def test_other_values(self):
        standing = (0, 0, 0, 0, (1, 2))
        for odd in (*ODD, (1,), (1, 1), (1, 2, 1), (2, 1, 0), (0, 1, 2), [1, 2], (True, 2), (1, 3), "12", ((1, 2),)):
            self.assertIs(is_sure_order(PAIR, standing, odd), False, odd)
            with self.assertRaises(BadOrder) as caught:
                weight_of(PAIR, standing, odd)
            self.assertIs(caught.exception.thing, odd)
        for odd in ((2,), (1,), (1, 2), None, []):
            self.assertIs(is_sure_order(PAIR, (1, 0, 0, 0, ()), odd), False)
            with self.assertRaises(BadOrder):
                weight_of(PAIR, (1, 0, 0, 0, ()), odd)

    def test_legs_that_are_not_listed(self):
        town = (PAIR[0], tuple(leg for leg in PAIR[1] if leg[:2] not in ((1, 2), (2, 0))), 20, 2)
        standing = (0, 0, 0, 0, (1, 2))
        self.assertIs(is_sure_order(town, standing, (2, 1)), True)
        # The plan itself cannot be driven; all legs of the order are changed ones.
        self.assertEqual(weight_of(town, standing, (2, 1)), 8 * (4 + 4 + 3) + 3)
        with self.assertRaises(BadOrder):
            weight_of(town, standing, (1, 2))
        with self.assertRaises(BadOrder):
            weight_of(town, (2, 0, 0, 0, ()), ())
        self.assertEqual(weight_of(town, (1, 0, 0, 0, ()), ()), 24)

    def test_nothing_left(self):
        for ready in (0, 20, 21, 999):
            for budget in (0, 4):
                self.assertIs(is_sure_order(PAIR, (0, ready, budget, 2, ()), ()), True)
                self.assertIs(is_sure_order(PAIR, (0, ready, budget, 3, ()), ()), False)
                self.assertEqual(weight_of(PAIR, (0, ready, budget, 3, ()), ()), 0)
        for ready, budget, fetched, expected in ((17, 0, 2, True), (18, 0, 2, False), (16, 1, 0, True),
                                                 (17, 1, 0, False), (16, 4, 0, True), (0, 0, 3, False)):
            self.assertIs(is_sure_order(PAIR, (1, ready, budget, fetched, ()), ()), expected)

    def test_no_service_where_the_van_stands(self):
        # Ready at 5 from 1, whose service is 2; at 2 by 7 or 9, which is shut at 8.
        self.assertIs(is_sure_order(PAIR, (1, 6, 0, 0, (2,)), (2,)), True)
        self.assertIs(is_sure_order(PAIR, (1, 7, 0, 0, (2,)), (2,)), False)
        self.assertIs(is_sure_order(PAIR, (1, 4, 1, 0, (2,)), (2,)), True)
        self.assertIs(is_sure_order(PAIR, (1, 5, 1, 0, (2,)), (2,)), False)

    def test_loads_from_now_on(self):
        places = ((0, 99, 0, 3, 1, 0), (0, 99, 0, 2, 5, 0))
        legs = ((0, 1, 1, 1, 1), (0, 2, 1, 1, 1), (1, 0, 1, 1, 1), (1, 2, 1, 1, 1), (2, 0, 1, 1, 1), (2, 1, 1, 1, 1))
        for fetched, order, greatest in ((0, (1, 2), 6), (0, (2, 1), 8), (2, (1, 2), 8), (4, (2, 1), 12)):
            for room, expected in ((greatest, True), (greatest - 1, False)):
                town = (places, legs, 99, room)
                self.assertIs(is_sure_order(town, (0, 0, 0, fetched, (1, 2)), order), expected, (fetched, order, room))
        self.assertIs(is_sure_order((places, legs, 99, 4), (0, 0, 0, 5, (1, 2)), (1, 2)), False)

    def test_changed_legs(self):
        standing = (0, 0, 0, 0, (1, 2, 3))
        free = (tuple((0, 99, 0, 0, 0, 0) for _ in range(3)),
                tuple((a, b, 1, 1, 0) for a in range(4) for b in range(4) if a != b), 99, 0)
        found = [weight_of(free, standing, order) for order in permutations((1, 2, 3))]
        self.assertEqual(found, [0, 3, 3, 3, 3, 4])
        self.assertEqual(weight_of(free, (3, 0, 0, 0, (1, 2)), (2, 1)), 3)
        self.assertEqual(weight_of(free, (3, 0, 0, 0, (1,)), (1,)), 0)

    def test_great_budgets(self):
        self.assertIs(is_sure_order(PAIR, (0, 0, 10 ** 39, 0, (2, 1)), (2, 1)), True)
        self.assertIs(is_sure_order(PAIR, (0, 0, 10 ** 39, 0, (1, 2)), (1, 2)), False)


class Judged(unittest.TestCase):
    def test_against_all_orders(self):
        kinds = set()
        for town, standing in standings(900, 1):
            found = judge_rest(town, standing)
            self.assertIs(rest_holds(town, standing, found), True, (town, standing))
            sure = [order for order in orders_by_words(town, standing) if is_sure_by_words(town, standing, order)]
            self.assertEqual(found[0], "order" if sure else "none")
            if sure:
                least = min(weight_by_words(town, standing, order) for order in sure)
                self.assertEqual(weight_of(town, standing, found[1]), least)
            if standing[4]:
                self.assertTrue(is_right_rest(town, standing, found))
                for label in found[-1]:
                    self.assertIs(is_label(town, standing[2], label), True)
            else:
                self.assertEqual(found, ("order", (), ()) if sure else ("none", ()))
            kinds.add((found[0], len(standing[4])))
        self.assertLessEqual({(kind, many) for kind in ("order", "none") for many in range(4)}, kinds)

    def test_five_places(self):
        for town in (full_town(5), *[roomy_town(seed, 5) for seed in range(4)]):
            wide = (tuple((0, 999, *row[2:]) for row in town[0]), town[1], 999, 60)
            for each in (town, wide):
                for left in ((1, 2, 3, 4, 5), (5, 3, 1, 2, 4)):
                    standing = (0, 0, 2, 0, left)
                    found = judge_rest(each, standing)
                    self.assertIs(rest_holds(each, standing, found), True)
                    sure = [order for order in orders_by_words(each, standing)
                            if is_sure_by_words(each, standing, order)]
                    self.assertEqual(found[0], "order" if sure else "none")
                    if sure:
                        least = min(weight_by_words(each, standing, order) for order in sure)
                        self.assertEqual(weight_of(each, standing, found[1]), least)

    def test_fetched_above_the_room(self):
        self.assertEqual(judge_rest(PAIR, (1, 0, 0, 3, (2,))), ("none", ()))
        self.assertEqual(judge_rest(PAIR, (0, 0, 0, 3, ())), ("none", ()))
        self.assertIs(rest_holds(PAIR, (1, 0, 0, 3, (2,)), ("none", ())), True)

    def test_fewer_changed_legs_among_equal_costs(self):
        free = (tuple((0, 99, 0, 0, 0, 0) for _ in range(3)),
                tuple((a, b, 1, 1, 2) for a in range(4) for b in range(4) if a != b), 99, 0)
        for left in permutations((1, 2, 3)):
            self.assertEqual(judge_rest(free, (0, 0, 1, 0, left))[1], left)


class Certificates(unittest.TestCase):
    def check(self, town, standing, thing):
        expected = is_right_rest(town, standing, thing)
        self.assertIs(rest_holds(town, standing, thing), expected, (town, standing, thing))
        return expected

    def cases(self, many=120, seed=2):
        for town, standing in standings(many, seed):
            if standing[4]:
                yield town, standing, judge_rest(town, standing)

    def test_longer_tables(self):
        for town, standing, found in self.cases():
            full = all_labels(town, standing)
            for table in (full, full + found[-1], found[-1] * 2, full[::-1]):
                self.assertIs(self.check(town, standing, with_table(found, table)), True)

    def test_a_label_left_out(self):
        answers = [0, 0]
        for town, standing, found in self.cases():
            for table in (found[-1], all_labels(town, standing), found[-1] * 2):
                for k in range(0, len(table), 1 + len(table) // 12):
                    answers[self.check(town, standing, with_table(found, table[:k] + table[k + 1:]))] += 1
        self.assertGreater(min(answers), 100)

    def test_a_number_changed(self):
        answers = [0, 0]
        draw = Random(5)
        for town, standing, found in self.cases():
            table = found[-1]
            for at in draw.sample(range(len(table)), min(5, len(table))):
                for k in (2, 3, 4, 5):
                    for by in (-1, 1, -9):
                        label = table[at]
                        part = (*label[2][:-1], label[2][-1] + by) if k == 2 else label[k] + by
                        other = (*label[:k], part, *label[k + 1:])
                        if is_label(town, standing[2], other):
                            thing = with_table(found, table[:at] + (other,) + table[at + 1:])
                            answers[self.check(town, standing, thing)] += 1
        self.assertGreater(min(answers), 100)

    def test_fewer_visited_places_do_not_dominate(self):
        answers = [0, 0]
        for town, standing, found in self.cases():
            table = found[-1]
            for at in range(0, len(table), 1 + len(table) // 6):
                label = table[at]
                for place in range(1, len(town[0]) + 1):
                    other = (label[0], tuple(sorted({*label[1]} ^ {place})), *label[2:])
                    if is_label(town, standing[2], other):
                        thing = with_table(found, table[:at] + (other,) + table[at + 1:])
                        answers[self.check(town, standing, thing)] += 1
        self.assertGreater(answers[False], 100)

    def test_a_place_that_is_not_left(self):
        many = 0
        for town, standing, found in self.cases():
            for place in range(1, len(town[0]) + 1):
                if place in standing[4]:
                    continue
                last = standing[4][0]
                for visited in ((place,), tuple(sorted((place, last)))):
                    for end in {last, place} & {*visited}:
                        extra = (end, visited, (999,) * (standing[2] + 1), 99, 99, 999)
                        self.assertIs(is_label(town, standing[2], extra), True)
                        self.assertIs(self.check(town, standing, with_table(found, found[-1] + (extra,))), False)
                        many += 1
        self.assertGreater(many, 50)

    def test_just_below_the_weight(self):
        many = 0
        for town, standing, found in self.cases(200):
            if found[0] == "none":
                continue
            least = weight_of(town, standing, found[1])
            home = weights(town, standing)
            for label in found[2]:
                if set(label[1]) == set(standing[4]) and closed_cost(town, standing[2], label) is not None:
                    for by, expected in ((0, True), (-1, False)):
                        extra = (*label[:5], least - home[(label[0], 0)] + by)
                        self.assertIs(self.check(town, standing, with_table(found, found[2] + (extra,))), expected)
                        many += 1
        self.assertGreater(many, 50)

    def test_cheap_labels_that_do_not_end(self):
        standing = (0, 0, 0, 0, (1, 2))
        found = judge_rest(PAIR, standing)
        cheap = (1, (1,), (20,), 0, 0, -999)
        late = (1, (1, 2), (16,), 0, 0, -999)
        ending = (1, (1, 2), (15,), 9, 9, -999)
        for extra, expected in ((cheap, True), (late, True), (ending, False)):
            self.assertIs(self.check(PAIR, standing, with_table(found, found[2] + (extra,))), expected)

    def test_none_though_a_label_ends(self):
        for town, standing, found in self.cases(200):
            self.assertIs(rest_holds(town, standing, ("none", found[-1])), found[0] == "none")
            self.assertIs(rest_holds(town, standing, ("none", all_labels(town, standing))), found[0] == "none")

    def test_other_orders_in_its_place(self):
        answers = [0, 0]
        for town, standing, found in self.cases(200):
            for order in permutations(standing[4]):
                answers[self.check(town, standing, ("order", order, found[-1]))] += 1
            for order in ((), standing[4][1:], standing[4] * 2, [*standing[4]], None, 1, (True,)):
                self.assertIs(rest_holds(town, standing, ("order", order, found[-1])), False)
        self.assertGreater(min(answers), 10)

    def test_nothing_left(self):
        yes, no = ("order", (), ()), ("none", ())
        for town, standing, sure in ((PAIR, (0, 0, 0, 2, ()), True), (PAIR, (0, 0, 0, 3, ()), False),
                                     (PAIR, (1, 16, 1, 0, ()), True), (PAIR, (1, 17, 1, 0, ()), False),
                                     (EMPTY, (0, 9, 4, 0, ()), True), ((PAIR[0], (), 9, 9), (1, 0, 0, 0, ()), False)):
            self.assertEqual(judge_rest(town, standing), yes if sure else no)
            self.assertIs(rest_holds(town, standing, yes), sure)
            self.assertIs(rest_holds(town, standing, no), not sure)
            for odd in (*ODD, ("order", ()), ("none", (), ()), ("none",), ("order", (), [])):
                self.assertIs(rest_holds(town, standing, odd), False)
            label = (1, (1,), (0,) * (standing[2] + 1), 0, 0, 0)
            for odd in (("none", (label,)), ("order", (), (label,)), ["none", ()], ("none", [])):
                self.assertIs(rest_holds(town, standing, odd), False)

    def test_bools_lists_and_sizes(self):
        town = (((0, 1, 0, 1, 0, 1),), ((0, 1, 0, 1, 1), (1, 0, 0, 1, 0)), 1, 1)
        standing = (0, 0, 0, 0, (1,))
        thing = judge_rest(town, standing)
        self.assertEqual(thing, ("order", (1,), ((1, (1,), (0,), 0, 1, 8),)))
        for other in (*with_bools(thing), *with_lists(thing)):
            self.assertIs(rest_holds(town, standing, other), False, other)
        for other in resized(thing):
            self.assertIs(rest_holds(town, standing, other), other == (*thing[:2], thing[2] * 2), other)

    def test_odd_values(self):
        standing = (0, 0, 0, 0, (1, 2))
        thing = judge_rest(PAIR, standing)
        for odd in (*ODD, thing[:2], thing + (1,), thing[2], "order", "none", ("none",), ("order",), [*thing]):
            self.assertIs(rest_holds(PAIR, standing, odd), False)
            for k in range(3):
                other = thing[:k] + (odd,) + thing[k + 1:]
                self.assertIs(rest_holds(PAIR, standing, other), repr(other) == repr(thing))
            self.assertIs(rest_holds(PAIR, standing, ("none", odd)), False)
            self.assertIs(rest_holds(PAIR, standing, with_table(thing, thing[2] + (odd,))), False)
        for word in ("Order", "none", "least", "", None, 1):
            self.assertIs(rest_holds(PAIR, standing, (word, *thing[1:])), False)
        none = judge_rest(PAIR, (1, 5, 1, 0, (2,)))
        self.assertEqual(none[0], "none")
        for word in ("None", "order", "", None, 0):
            self.assertIs(rest_holds(PAIR, (1, 5, 1, 0, (2,)), (word, none[1])), False)


class Errors(unittest.TestCase):
    CALLS = ((is_sure_order, (None,)), (weight_of, (None,)), (judge_rest, ()), (rest_holds, (None,)))

    def test_bad_town(self):
        for odd in (*ODD, TOWN[:3], *with_bools(ONE)):
            for function, rest in (*self.CALLS, (is_standing, ())):
                with self.assertRaises(BadTown) as caught:
                    function(odd, None, *rest)
                self.assertIs(caught.exception.thing, odd)

    def test_bad_standing(self):
        for odd in (*ODD, (3, 0, 0, 0, ()), (1, 0, 0, 0, (1,)), [0, 0, 0, 0, ()], (0, 0, True, 0, ()), (0, 0, 0, 0)):
            for function, rest in self.CALLS:
                with self.assertRaises(BadStanding) as caught:
                    function(PAIR, odd, *rest)
                self.assertIs(caught.exception.thing, odd)


if __name__ == "__main__":
    unittest.main()
