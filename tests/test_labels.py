"""Paths, labels and their forms, extending, closing and dominating."""

import unittest
from itertools import permutations
from random import Random

from latebyfew.errors import BadBudget, BadLabel, BadPath, BadPlace, BadPrices, BadTown
from latebyfew.labels import closed_cost, does_dominate, extended, is_label, is_path, label_of
from reference_labels import all_paths, closed_by_words, dominates_by_words, extended_by_words, label_by_days, leg_rows
from samples import EMPTY, ODD, ONE, PAIR, TOWN, changed, random_town, resized, roomy_town, with_bools, with_lists

LABEL = (1, (1, 2), (8, 9), 0, 2, 8)
TOWNS = (TOWN, PAIR, ONE, *[random_town(seed) for seed in range(25)], *[roomy_town(seed, 4) for seed in range(8)])


def prices_for(town, seed):
    draw = Random(seed)
    return tuple(draw.randint(-200, 200) for _ in town[0])


def with_part(label, k, part):
    return label[:k] + (part,) + label[k + 1:]


def random_label(draw, town, g):
    """A value with the form of a label, which need not belong to any path."""
    places = range(1, len(town[0]) + 1)
    visited = sorted(draw.sample(places, draw.randint(1, len(places))))
    times = sorted(draw.choice((draw.randint(0, 12), draw.randint(0, 40), 10 ** 6)) for _ in range(g + 1))
    fetched, load = sorted(draw.randint(0, 6) for _ in range(2))
    return (draw.choice(visited), tuple(visited), tuple(times), fetched, load, draw.randint(-20, 20))


class Paths(unittest.TestCase):
    def test_all_rows(self):
        for town in TOWNS:
            expected = set(all_paths(town))
            places = range(len(town[0]) + 2)
            rows = [row for many in range(4) for row in permutations(places, many)]
            for row in {*rows, *expected}:
                self.assertIs(is_path(town, row), row in expected)

    def test_the_way_home_need_not_be(self):
        town = (TOWN[0], ((0, 1, 2, 4, 3), (1, 2, 1, 3, 1)), 0, 0)
        self.assertEqual([is_path(town, row) for row in ((1,), (1, 2), (2,), (2, 1))], [True, True, False, False])

    def test_other_values(self):
        for odd in (*ODD, (1, 1), (1, 2, 1), (0,), (0, 1), (1, 0), (3,), (-1,), [1], [1, 2], "12", (True,), (True, 2),
                    (1, None), (1, "2"), (1, [2]), ((1,), 2), {1: 2}, (10 ** 39,), LABEL):
            self.assertIs(is_path(TOWN, odd), False, odd)

    def test_no_places(self):
        for thing in ((), (1,), (0,)):
            self.assertIs(is_path(EMPTY, thing), False)


class LabelsOfPaths(unittest.TestCase):
    def test_the_example(self):
        self.assertEqual(
            [label_of(PAIR, 1, (0, 0), (2, 1)), label_of(PAIR, 1, (0, 0), (1, 2)), closed_cost(PAIR, 1, LABEL)],
            [LABEL, None, 11])

    def test_over_all_days(self):
        answers = set()
        for k, town in enumerate(TOWNS):
            prices = prices_for(town, k)
            for path in all_paths(town):
                for g in range(5):
                    found = label_of(town, g, prices, path)
                    self.assertEqual(found, label_by_days(town, g, prices, path))
                    answers.add((len(path), found is None))
                    if found is not None:
                        self.assertIs(is_label(town, g, found), True)
        self.assertEqual(answers, {(many, answer) for many in range(1, 5) for answer in (True, False)})

    def test_step_by_step(self):
        for k, town in enumerate(TOWNS):
            prices = prices_for(town, k)
            paths = set(all_paths(town))
            for g in (0, 1, 3):
                for path in paths:
                    label = label_of(town, g, prices, path)
                    if label is None:
                        continue
                    for place in range(1, len(town[0]) + 1):
                        longer = path + (place,)
                        expected = label_of(town, g, prices, longer) if longer in paths else None
                        self.assertEqual(extended(town, g, prices, label, place), expected)

    def test_windows_and_room_that_just_hold(self):
        for shut, room, is_open in ((9, 2, True), (8, 2, False), (9, 1, False)):
            town = (((0, shut, 2, 1, 0, 5), (0, 8, 2, 1, 0, 7)), PAIR[1], 20, room)
            self.assertEqual(label_of(town, 1, (0, 0), (2, 1)), LABEL if is_open else None)
            self.assertEqual(extended(town, 1, (0, 0), (2, (2,), (4, 4), 0, 1, 4), 1), LABEL if is_open else None)

    def test_home_does_not_matter(self):
        late = PAIR[:2] + (0, 2)
        for path in ((1,), (2,), (2, 1)):
            self.assertEqual(label_of(late, 1, (0, 0), path), label_of(PAIR, 1, (0, 0), path))

    def test_fetching(self):
        places = ((0, 9, 0, 3, 1, 0), (0, 9, 0, 0, 4, 0), (0, 9, 0, 1, 0, 0))
        legs = ((0, 1, 1, 1, 1), (1, 2, 1, 1, 1), (2, 3, 1, 1, 1))
        self.assertEqual([label_of((places, legs, 0, 6), 0, (0, 0, 0), (1, 2, 3)[:k])[3:5] for k in (1, 2, 3)],
                         [(1, 3), (5, 5), (5, 6)])
        self.assertIsNone(label_of((places, legs, 0, 5), 0, (0, 0, 0), (1, 2, 3)))
        self.assertIsNotNone(label_of((places, legs, 0, 5), 0, (0, 0, 0), (1, 2)))


class Forms(unittest.TestCase):
    def test_labels_of_no_path(self):
        for label in (LABEL, (1, (1,), (0, 0), 0, 0, 0), (2, (1, 2), (10 ** 6, 10 ** 6), 0, 10 ** 6, -10 ** 6),
                      (1, (1,), (3, 3), 7, 7, -1), (2, (2,), (0, 99), 0, 0, 10 ** 6)):
            self.assertIs(is_label(PAIR, 1, label), True)

    def test_just_no_labels(self):
        for label in (
                (2, (1,), (8, 9), 0, 2, 8), (1, (2, 1), (8, 9), 0, 2, 8), (1, (1, 1), (8, 9), 0, 2, 8),
                (1, (), (8, 9), 0, 2, 8), (3, (1, 3), (8, 9), 0, 2, 8), (1, (1, 3), (8, 9), 0, 2, 8),
                (0, (0, 1), (8, 9), 0, 2, 8), (1, (0, 1), (8, 9), 0, 2, 8), (1, (1, 2), (9, 8), 0, 2, 8),
                (1, (1, 2), (-1, 9), 0, 2, 8), (1, (1, 2), (8,), 0, 2, 8), (1, (1, 2), (8, 9, 9), 0, 2, 8),
                (1, (1, 2), (8, 9), 3, 2, 8), (1, (1, 2), (8, 9), -1, 2, 8), (1, (1, 2), (8, 9), -2, -1, 8),
                (1, (1, 2), (8, 9), 0, 2), (1, (1, 2), (8, 9), 0, 2, 8, 0), (1, (1, 2), (8, 9), 0, 2, None)):
            self.assertIs(is_label(PAIR, 1, label), False, label)

    def test_the_times_fit_the_budget(self):
        for g in range(6):
            for size in range(8):
                self.assertIs(is_label(PAIR, g, (1, (1,), (5,) * size, 0, 0, 0)), size == g + 1)

    def test_bools_lists_and_sizes(self):
        label = (1, (1, 2), (0, 1), 0, 1, 0)
        self.assertIs(is_label(PAIR, 1, label), True)
        for other in (*with_bools(label), *with_lists(label)):
            self.assertIs(is_label(PAIR, 1, other), False, other)
        for other in resized(label):
            self.assertIs(is_label(PAIR, 1, other), other == (1, (1,), (0, 1), 0, 1, 0), other)

    def test_odd_values(self):
        for odd in (*ODD, PAIR, "label", (LABEL,), [LABEL]):
            self.assertIs(is_label(PAIR, 1, odd), False)
            for k in range(6):
                expected = type(odd) is int and (k == 5 or k == 4 and odd >= 0 or (k, odd) in ((0, 1), (3, 0), (3, 1)))
                self.assertIs(is_label(PAIR, 1, with_part(LABEL, k, odd)), expected, (k, odd))
            for old in (2, 8, 9):
                for other in changed(LABEL[:3], old, odd):
                    self.assertIs(is_label(PAIR, 1, other + LABEL[3:]),
                                  type(odd) is int and (old, odd) in ((8, 0), (8, 1), (9, 10 ** 39)), other)


class Extending(unittest.TestCase):
    def test_values_with_the_form_of_labels(self):
        draw = Random(3)
        answers = [0, 0]
        for town in TOWNS:
            legs = leg_rows(town)
            prices = prices_for(town, 5)
            for _ in range(200 if town[0] else 0):
                g = draw.randint(0, 4)
                label = random_label(draw, town, g)
                self.assertEqual(closed_cost(town, g, label), closed_by_words(town, label))
                for place in range(1, len(town[0]) + 1):
                    gain = legs[(label[0], place)][4] - prices[place - 1] if (label[0], place) in legs else 0
                    expected = extended_by_words(town, label, place, gain)
                    self.assertEqual(extended(town, g, prices, label, place), expected)
                    answers[expected is None] += 1
        self.assertGreater(min(answers), 200)

    def test_visited_and_unlisted(self):
        town = (PAIR[0], PAIR[1][:3], 20, 2)
        self.assertIsNone(extended(town, 0, (0, 0), (1, (1,), (0,), 0, 0, 0), 2))
        self.assertIsNone(extended(PAIR, 0, (0, 0), (1, (1, 2), (0,), 0, 0, 0), 2))
        self.assertIsNone(extended(PAIR, 0, (0, 0), (1, (1,), (0,), 0, 0, 0), 1))
        self.assertEqual(extended(PAIR, 0, (0, 3), (1, (1,), (0,), 0, 0, -7), 2), (2, (1, 2), (4,), 0, 1, -8))

    def test_a_last_place_beyond_its_window(self):
        # Nobody asks how the label came to be there, or what it carries.
        self.assertEqual(closed_cost(PAIR, 0, (1, (1,), (15,), 50, 60, 2)), 5)
        self.assertIsNone(closed_cost(PAIR, 0, (1, (1,), (16,), 50, 60, 2)))
        town = (((0, 1, 0, 0, 0, 0), (0, 99, 0, 0, 0, 0)), PAIR[1], 20, 9)
        self.assertEqual(extended(town, 0, (0, 0), (1, (1,), (50,), 1, 2, 0), 2), (2, (1, 2), (52,), 1, 2, 2))

    def test_closing_just_in_time(self):
        for times, expected in (((14, 14), 5), ((14, 15), 5), ((15, 15), None), ((13, 16), None), ((0, 15), 5)):
            self.assertEqual(closed_cost(PAIR, 1, (1, (1,), times, 0, 0, 2)), expected, times)
        self.assertEqual(closed_cost(PAIR, 0, (1, (1,), (15,), 0, 0, 2)), 5)
        self.assertIsNone(closed_cost((PAIR[0], PAIR[1][:2], 20, 2), 0, (1, (1,), (0,), 0, 0, 2)))


class Dominating(unittest.TestCase):
    def test_itself_and_each_part_alone(self):
        label = (1, (1, 2), (4, 6), 2, 5, 8)
        self.assertIs(does_dominate(PAIR, 1, label, label), True)
        for less in ((1, (1,), (4, 6), 2, 5, 8), (1, (1, 2), (3, 6), 2, 5, 8), (1, (1, 2), (4, 5), 2, 5, 8),
                     (1, (1, 2), (4, 6), 1, 5, 8), (1, (1, 2), (4, 6), 2, 4, 8), (1, (1, 2), (4, 6), 2, 5, 7)):
            self.assertIs(does_dominate(PAIR, 1, less, label), True, less)
            self.assertIs(does_dominate(PAIR, 1, label, less), False, less)
        other = (2, (1, 2), (4, 6), 2, 5, 8)
        self.assertIs(does_dominate(PAIR, 1, label, other), False)
        self.assertIs(does_dominate(PAIR, 1, other, label), False)

    def test_better_and_worse_at_once(self):
        one, other = (1, (1,), (0, 9), 0, 3, 5), (1, (1, 2), (1, 8), 0, 3, 5)
        self.assertIs(does_dominate(PAIR, 1, one, other), False)
        self.assertIs(does_dominate(PAIR, 1, other, one), False)
        town = roomy_town(0, 4)
        self.assertIs(does_dominate(town, 0, (1, (1, 2), (0,), 0, 0, 0), (1, (1, 3), (9,), 9, 9, 9)), False)
        self.assertIs(does_dominate(town, 0, (1, (1, 3), (0,), 0, 0, 0), (1, (1, 2, 3), (9,), 9, 9, 9)), True)

    def test_by_words(self):
        draw = Random(4)
        answers = [0, 0]
        for town in (PAIR, roomy_town(1, 3)):
            for _ in range(3000):
                g = draw.randint(0, 1)
                one, other = random_label(draw, town, g), random_label(draw, town, g)
                expected = dominates_by_words(one, other)
                self.assertIs(does_dominate(town, g, one, other), expected)
                answers[expected] += 1
        self.assertGreater(min(answers), 100)


class Errors(unittest.TestCase):
    CALLS = (
        (label_of, (PAIR, 1, (0, 0), (2, 1)), (BadTown, BadBudget, BadPrices, BadPath)),
        (extended, (PAIR, 1, (0, 0), (2, (2,), (4, 4), 0, 1, 4), 1),
         (BadTown, BadBudget, BadPrices, BadLabel, BadPlace)),
        (closed_cost, (PAIR, 1, LABEL), (BadTown, BadBudget, BadLabel)),
        (does_dominate, (PAIR, 1, LABEL, LABEL), (BadTown, BadBudget, BadLabel, BadLabel)),
        (is_label, (PAIR, 1, LABEL), (BadTown, BadBudget)),
        (is_path, (PAIR, (1,)), (BadTown,)),
    )
    WRONG = {
        BadTown: (None, TOWN[:3], [*TOWN], *with_bools(ONE)),
        BadBudget: (None, True, False, -1, "1", (1,), [1], {}),
        BadPrices: (None, (), (0,), (0, 0, 0), [0, 0], (0, True), (0, "0"), (None, 0), (0, [0]), 0, "00", {}),
        BadPath: (None, (), (1, 1), [2, 1], (True,), (3,), (0,), "21", 2, {}, ((2,), 1), LABEL),
        BadLabel: (None, (), LABEL[:5], [*LABEL], with_part(LABEL, 2, (8,)), with_part(LABEL, 0, True), {}, 1,
                   with_part(LABEL, 2, (9, 8)), with_part(LABEL, 3, 3), "label"),
        BadPlace: (None, True, False, 0, 3, -1, "1", (1,), [1], {}, 10 ** 39),
    }

    def test_each_one(self):
        for function, given, kinds in self.CALLS:
            function(*given)
            for k, kind in enumerate(kinds):
                for odd in self.WRONG[kind]:
                    with self.assertRaises(kind) as caught:
                        function(*with_part(given, k, odd))
                    self.assertIs(caught.exception.thing, odd)

    def test_which_comes_first(self):
        for function, given, kinds in self.CALLS:
            for k, kind in enumerate(kinds):
                for odd in self.WRONG[kind][:4]:
                    wrong = given[:k] + (odd,) + tuple(self.WRONG[later][0] for later in kinds[k + 1:])
                    with self.assertRaises(kind) as caught:
                        function(*wrong, *given[len(wrong):])
                    self.assertIs(caught.exception.thing, odd)

    def test_labels_for_another_budget(self):
        for g in (0, 2, 3):
            for call in (lambda: closed_cost(PAIR, g, LABEL), lambda: does_dominate(PAIR, g, LABEL, LABEL),
                         lambda: extended(PAIR, g, (0, 0), LABEL, 2)):
                with self.assertRaises(BadLabel):
                    call()

    def test_the_first_wrong_label(self):
        with self.assertRaises(BadLabel) as caught:
            does_dominate(PAIR, 1, "one", "other")
        self.assertEqual(caught.exception.thing, "one")


if __name__ == "__main__":
    unittest.main()
