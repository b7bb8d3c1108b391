"""Positions, moves, arrivals and values of the day as a game."""

import unittest
from random import Random

from latebyfew.errors import BadMove, BadPosition, BadTown
from latebyfew.games import arrivals, is_position, moves_of, value_of
from latebyfew.rounds import cost, rounds
from latebyfew.sure import is_sure
from reference_games import all_positions, all_wishes, answers_by_words, leg_rows, moves_by_words, value_by_tree
from samples import EMPTY, ODD, ONE, PAIR, TOWN, changed, full_town, random_town, resized, roomy_town
from samples import with_bools, with_lists

TOWNS = (TOWN, PAIR, ONE, EMPTY, *[random_town(seed) for seed in range(25)],
         *[roomy_town(seed, 2 + seed % 2) for seed in range(15)])


def beginnings(town, budgets=(0, 1, 2)):
    return [(0, 0, g, wishes) for g in budgets for wishes in all_wishes(town)]


class Positions(unittest.TestCase):
    def test_positions(self):
        for thing in ((0, 0, 0, ()), (0, 0, 1, (1, 2)), (1, 999, 4, (2,)), (2, 10 ** 39, 10 ** 39, (1,)), (2, 3, 0, ())):
            self.assertIs(is_position(PAIR, thing), True)

    def test_just_no_positions(self):
        for thing in ((3, 0, 0, ()), (-1, 0, 0, ()), (0, -1, 0, ()), (0, 0, -1, ()), (1, 0, 0, (1,)), (1, 0, 0, (1, 2)),
                      (0, 0, 0, (2, 1)), (0, 0, 0, (1, 1)), (0, 0, 0, (0,)), (0, 0, 0, (3,)), (0, 0, 0, (0, 1)),
                      (0, 0, 0), (0, 0, 0, (), ()), (0, 0, 0, 1), (0, 0, (), ()), (0, 0, 0, None)):
            self.assertIs(is_position(PAIR, thing), False, thing)
        self.assertIs(is_position(EMPTY, (0, 0, 0, ())), True)
        self.assertIs(is_position(EMPTY, (1, 0, 0, ())), False)

    def test_something_otherwise_at_any_depth(self):
        position = (0, 1, 1, (1, 2))
        for other in (*with_bools(position), *with_lists(position)):
            self.assertIs(is_position(PAIR, other), False, other)
        for other in resized(position):
            self.assertIs(is_position(PAIR, other), other in ((0, 1, 1, (1,)), (0, 1, 1, (2,))), other)
        for odd in ODD:
            self.assertIs(is_position(PAIR, odd), False)
            for k in range(4):
                other = position[:k] + (odd,) + position[k + 1:]
                right = type(odd) is int and odd >= 0 and (k in (1, 2) or k == 0 and odd == 0) or k == 3 and odd == ()
                self.assertIs(is_position(PAIR, other), right and not isinstance(odd, list), other)
            for other in changed((0, 5, 5, (1, 2)), 2, odd):
                self.assertIs(is_position(PAIR, other), False)


class Moves(unittest.TestCase):
    def test_against_the_words(self):
        ends = set()
        for town in TOWNS:
            for start in beginnings(town, (1,)):
                for position in all_positions(town, start):
                    found = moves_of(town, position)
                    self.assertEqual(found, moves_by_words(town, position))
                    self.assertIsInstance(found, tuple)
                    ends.add((position[0] == 0, 0 in found, len(found)))
                    for move in found:
                        self.check_arrivals(town, position, move)
        self.assertLessEqual({(True, True, 1), (False, False, 0), (False, True, 1), (False, False, 1)}, ends)

    def check_arrivals(self, town, position, move):
        if position[0] == 0 and move == 0:
            expected = ()
        else:
            leg = leg_rows(town)[(position[0], move)]
            times = [leg[3 if answer == "late" else 2] for answer in answers_by_words(position, move)]
            expected = tuple(position[1] + time for time in times)
        self.assertEqual(arrivals(town, position, move), expected)

    def test_the_examples(self):
        self.assertEqual(
            [moves_of(PAIR, (0, 0, 1, (1, 2))), arrivals(PAIR, (0, 0, 1, (1, 2)), 1)], [(0, 1, 2), (3, 5)])

    def test_the_van_that_stays(self):
        for town in (PAIR, EMPTY):
            for ready in (0, 5, 999):
                for budget in (0, 1, 4):
                    self.assertEqual(moves_of(town, (0, ready, budget, ())), (0,))
                    self.assertEqual(arrivals(town, (0, ready, budget, ()), 0), ())
                    self.assertEqual(value_of(town, (0, ready, budget, ())), 0)

    def test_a_leg_that_is_never_late(self):
        position = (0, 7, 1, (2,))
        self.assertEqual(arrivals(PAIR, position, 2), (11, 11))
        self.assertEqual(arrivals(PAIR, (0, 7, 0, (2,)), 2), (11,))
        # To make it late costs one of the budget, though it helps the foe nothing.
        self.assertEqual(value_of(PAIR, (0, 0, 1, (2,))), value_by_tree(PAIR, (0, 0, 1, (2,))))

    def test_no_moves(self):
        town = (PAIR[0], PAIR[1][:2], 20, 2)
        for position in ((1, 3, 1, (2,)), (1, 3, 0, ()), (2, 0, 4, (1,))):
            self.assertEqual(moves_of(town, position), ())
            self.assertIsNone(value_of(town, position))


class Values(unittest.TestCase):
    def test_the_examples(self):
        positions = ((0, 0, 1, (1, 2)), (0, 0, 1, (1,)), (0, 0, 0, (1, 2)), (1, 5, 1, (2,)))
        self.assertEqual([value_of(PAIR, position) for position in positions], [11, 5, 9, 10])

    def test_against_the_tree(self):
        found = set()
        for town in TOWNS:
            for start in beginnings(town):
                value = value_of(town, start)
                self.assertEqual(value, value_by_tree(town, start))
                self.assertIsInstance(value, int)
                found.add((len(start[3]), start[2]))
        self.assertLessEqual({(many, g) for many in range(5) for g in range(3)}, found)

    def test_all_positions_that_come_up(self):
        answers = [0, 0]
        for town in TOWNS[:30]:
            for position in all_positions(town, (0, 0, 2, tuple(range(1, len(town[0]) + 1))))[::3]:
                value = value_of(town, position)
                self.assertEqual(value, value_by_tree(town, position))
                answers[value is None] += 1
        self.assertGreater(min(answers), 100)

    def test_four_places(self):
        for town in (full_town(4), roomy_town(1, 4), roomy_town(4, 4)):
            for position in ((0, 0, 4, (1, 2, 3, 4)), (3, 5, 3, (1, 2, 4)), (0, 20, 2, (1, 2, 3, 4))):
                self.assertEqual(value_of(town, position), value_by_tree(town, position))

    def test_a_lost_day(self):
        for ready, value in ((17, 3 + 7), (18, None), (999, None)):
            self.assertEqual(value_of(PAIR, (1, ready, 0, (2,))), value)
        for ready, value in ((16, 3 + 7), (17, None), (15, 3 + 7)):
            self.assertEqual(value_of(PAIR, (1, ready, 1, (2,))), value)
        self.assertEqual(value_of(PAIR, (1, 16, 0, ())), 3)
        self.assertIsNone(value_of(PAIR, (1, 17, 1, ())))

    def test_a_window_that_just_holds(self):
        # 2 is shut at 8: arrivals at 8 are served, arrivals at 9 are not.
        dear = ((PAIR[0][0], (0, 8, 2, 1, 0, 50)), *PAIR[1:])
        self.assertEqual([value_of(dear, (1, ready, 0, (2,))) for ready in (5, 6, 7)], [6, 6, 53])
        self.assertEqual([value_of(dear, (1, ready, 1, (2,))) for ready in (4, 5)], [6, 53])
        late = ((PAIR[0][0], (8, 8, 2, 1, 0, 50)), *PAIR[1:])
        self.assertEqual([value_of(late, (1, ready, 0, (2,))) for ready in (0, 6, 7)], [6, 6, 53])

    def test_passing_goes_on_sooner_than_serving(self):
        # To serve 1 takes until 99; whoever passes it reaches 2, which cannot be reached otherwise.
        places = ((0, 99, 90, 0, 0, 3), (0, 5, 0, 0, 0, 20))
        legs = ((0, 1, 1, 1, 1), (1, 0, 1, 1, 1), (1, 2, 1, 1, 1), (2, 0, 1, 1, 1))
        self.assertEqual(value_of((places, legs, 99, 0), (0, 0, 0, (1, 2))), 6)
        self.assertEqual(value_of((places, legs, 99, 0), (0, 0, 3, (1, 2))), 6)
        self.assertEqual(value_of((places, legs, 2, 0), (0, 0, 0, (1, 2))), 23)

    def test_the_room_is_not_looked_at(self):
        for room in (0, 1, 99):
            self.assertEqual(value_of((*PAIR[:3], room), (0, 0, 1, (1, 2))), 11)


class Comparisons(unittest.TestCase):
    """What [9.6] says of every town."""

    def not_above(self, one, other):
        self.assertTrue(other is None or one is not None and one <= other, (one, other))

    def test_later_or_with_more_budget(self):
        draw = Random(9)
        for town in TOWNS:
            positions = all_positions(town, (0, 0, 2, tuple(range(1, len(town[0]) + 1))))
            for place, ready, budget, wishes in draw.sample(positions, min(15, len(positions))):
                value = value_of(town, (place, ready, budget, wishes))
                for later in (1, 4):
                    self.not_above(value, value_of(town, (place, ready + later, budget, wishes)))
                    self.not_above(value, value_of(town, (place, ready, budget + later, wishes)))

    def test_one_more_wish(self):
        draw = Random(10)
        for town in TOWNS:
            positions = all_positions(town, (0, 0, 1, tuple(range(1, len(town[0]) + 1))))
            for place, ready, budget, wishes in draw.sample(positions, min(15, len(positions))):
                for wish in wishes:
                    fewer = value_of(town, (place, ready, budget, tuple(k for k in wishes if k != wish)))
                    more = value_of(town, (place, ready, budget, wishes))
                    self.not_above(more, None if fewer is None else fewer + town[0][wish - 1][5])

    def test_against_sure_rounds(self):
        many = 0
        for town in TOWNS:
            for tour in rounds(town):
                for g in (0, 1, 3):
                    if is_sure(town, tour, g):
                        self.assertLessEqual(value_of(town, (0, 0, g, tuple(sorted(tour)))), cost(town, tour))
                        many += 1
        self.assertGreater(many, 100)

    def test_dear_penalties_and_no_budget(self):
        many = 0
        for town in TOWNS:
            places = tuple((*row[:5], 99) for row in town[0])
            dear = (places, town[1], town[2], 60)
            for wishes in all_wishes(town)[1:]:
                sure = [cost(dear, tour) for tour in rounds(dear)
                        if tuple(sorted(tour)) == wishes and is_sure(dear, tour, 0)]
                if sure:
                    self.assertEqual(value_of(dear, (0, 0, 0, wishes)), min(sure))
                    many += 1
        self.assertGreater(many, 50)


class Errors(unittest.TestCase):
    CALLS = ((moves_of, ()), (value_of, ()), (arrivals, (1,)), (arrivals, (None,)))

    def test_bad_town(self):
        for odd in (*ODD, TOWN[:3], *with_lists(ONE), *with_bools(ONE)):
            for function, rest in (*self.CALLS, (is_position, ())):
                with self.assertRaises(BadTown) as caught:
                    function(odd, None, *rest)
                self.assertIs(caught.exception.thing, odd)

    def test_bad_position(self):
        for odd in (*ODD, (3, 0, 0, ()), (0, 0, 0, (2, 1)), (1, 0, 0, (1,)), [0, 0, 0, ()], (0, True, 0, ())):
            for function, rest in self.CALLS:
                with self.assertRaises(BadPosition) as caught:
                    function(PAIR, odd, *rest)
                self.assertIs(caught.exception.thing, odd)

    def test_bad_move(self):
        town = (PAIR[0], PAIR[1][:3], 20, 2)
        cases = [(PAIR, (0, 0, 1, (1, 2)), odd) for odd in (*ODD, 3, -1, "1", (1,), [1], "home")
                 if not (type(odd) is int and odd in (0, 1))]
        cases += [(PAIR, (0, 0, 1, (1,)), 2), (PAIR, (1, 0, 1, ()), 1), (town, (1, 0, 0, (2,)), 2),
                  (town, (2, 0, 0, ()), 0), (PAIR, (0, 0, 0, ()), False), (PAIR, (0, 0, 0, (1,)), True)]
        for place, position, odd in cases:
            with self.assertRaises(BadMove) as caught:
                arrivals(place, position, odd)
            self.assertIs(caught.exception.thing, odd)


if __name__ == "__main__":
    unittest.main()
