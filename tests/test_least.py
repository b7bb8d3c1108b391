"""Least machines, and that of the sure rounds of a town."""

import unittest
from random import Random

from latebyfew.errors import BadBudget, BadTown
from latebyfew.machines import accepts, count, is_least, is_machine, least, sure_machine
from latebyfew.rounds import rounds
from reference import (is_sure_by_days, machine_moved, machine_of_words, numberings, random_machine, sure_rounds,
                       words_of)
from samples import EMPTY, ODD, ONE, SIX, TOWN, full_town, random_town, with_bools, with_lists
from test_machines import MACHINES, beside_long_row, long_row

NONE = ((False, ()),)
EMPTY_WORD = ((True, ()),)
# Least, and its numbers are breadth first: 1 and 2 by the first letters, 3 by the second ones.
LEAST = ((False, ((1, 1), (2, 2))), (False, ((1, 3),)), (True, ((2, 4),)), (True, ((1, 4),)), (True, ()))


class Least(unittest.TestCase):
    def test_the_examples(self):
        alike = ((True, ((1, 1), (2, 2))), (True, ()), (True, ()))
        self.assertEqual([is_least(alike), least(alike), least(((False, ((1, 1),)), (False, ())))],
                         [False, ((True, ((1, 1), (2, 1))), (True, ())), ((False, ()),)])

    def test_by_the_words_alone(self):
        for machine in MACHINES:
            found = least(machine)
            self.assertEqual(found, machine_of_words(words_of(machine)))
            self.assertIs(is_machine(found), True)
            self.assertIs(is_least(found), True)
            self.assertIs(is_least(machine), found == machine)
            self.assertEqual(least(found), found)

    def test_of_larger_machines(self):
        for seed in range(12):
            machine = random_machine(Random(seed), 40 + seed)
            self.assertEqual(least(machine), machine_of_words(words_of(machine)))

    def test_bools_stay_bools(self):
        for machine in MACHINES:
            self.assertTrue(all(isinstance(state[0], bool) for state in least(machine)))
            self.assertTrue(all(type(part) is int for state in least(machine) for move in state[1] for part in move))

    def test_any_numbering(self):
        for order in numberings(5):
            machine = machine_moved(LEAST, order)
            self.assertIs(is_least(machine), order == (0, 1, 2, 3, 4))
            self.assertEqual(least(machine), LEAST)

    def test_breadth_first_is_not_depth_first(self):
        deep = machine_moved(LEAST, (0, 1, 4, 2, 3))
        self.assertEqual(deep[1], (False, ((1, 2),)))
        self.assertEqual([is_least(deep), is_least(LEAST)], [False, True])

    def test_states_that_cannot_be_reached(self):
        for more in ((True, ()), (False, ()), (True, ((1, 0),)), (False, ((3, 4), (5, 0)))):
            self.assertEqual([is_least(LEAST + (more,)), least(LEAST + (more,))], [False, LEAST])
        self.assertEqual(least(((False, ()), (True, ((1, 0),)))), NONE)
        self.assertEqual(least(((True, ()), (False, ((1, 0),)))), EMPTY_WORD)
        self.assertEqual(least(beside_long_row(600)), ((True, ((3, 1),)), (True, ())))

    def test_states_that_lead_nowhere(self):
        nowhere = LEAST[:4] + ((True, ((1, 5), (7, 6))), (False, ((1, 6),)), (False, ()))
        self.assertEqual([is_least(nowhere), least(nowhere)], [False, LEAST])
        self.assertEqual(least(((False, ((1, 1), (2, 2))), (False, ((1, 2),)), (False, ()))), NONE)
        self.assertEqual(least(((True, ((1, 1), (2, 1))), (False, ()))), EMPTY_WORD)

    def test_states_that_are_alike(self):
        # 1 and 2 are alike only because 3 and 4 are.
        alike = ((False, ((1, 1), (2, 2))), (False, ((1, 3),)), (False, ((1, 4),)), (True, ()), (True, ()))
        self.assertEqual(least(alike), ((False, ((1, 1), (2, 1))), (False, ((1, 2),)), (True, ())))
        # Alike but for one that leads nowhere.
        nearly = ((False, ((1, 1), (2, 2))), (True, ((1, 3),)), (True, ()), (False, ()))
        self.assertEqual(least(nearly), ((False, ((1, 1), (2, 1))), (True, ())))

    def test_states_that_differ(self):
        for machine in (
                ((False, ((1, 1), (2, 2))), (True, ((1, 2),)), (True, ())),
                ((False, ((1, 1), (2, 2))), (True, ((1, 3),)), (True, ((2, 3),)), (True, ())),
                ((False, ((1, 1), (2, 2))), (True, ((1, 3),)), (False, ((1, 3),)), (True, ())),
                ((True, ((1, 1),)), (False, ((1, 2),)), (True, ()))):
            self.assertEqual([is_least(machine), least(machine)], [True, machine])

    def test_the_least_of_all(self):
        self.assertEqual([is_least(NONE), is_least(EMPTY_WORD), least(NONE), least(EMPTY_WORD)],
                         [True, True, NONE, EMPTY_WORD])
        self.assertIs(is_least(NONE * 2), False)
        self.assertIs(is_least(EMPTY_WORD * 2), False)

    def test_long_rows(self):
        self.assertEqual(least(long_row(600)), long_row(600))
        self.assertIs(is_least(long_row(600)), True)
        self.assertEqual(least(long_row(600)[:-1] + ((False, ()),)), NONE)

    def test_many_states(self):
        row = tuple((False, ((k, 599),)) for k in range(1, 600))
        machine = ((False, tuple((k, k) for k in range(1, 10))),) + row[1:] + ((True, ()),)
        self.assertEqual(len(machine), 600)
        self.assertEqual(least(machine), machine_of_words(words_of(machine)))

    def test_the_same_words_give_the_same_machine(self):
        draw = Random(9)
        for machine in MACHINES[-40:]:
            double = machine + tuple((state[0], tuple((letter, target + draw.choice((0, len(machine)))) for
                                                      letter, target in state[1])) for state in machine)
            order = list(range(1, len(double)))
            draw.shuffle(order)
            other = machine_moved(double, [0, *order])
            self.assertEqual(sorted(words_of(other)), sorted(words_of(machine)))
            self.assertEqual(least(other), least(machine))


class SureMachines(unittest.TestCase):
    def test_the_example(self):
        self.assertEqual(
            [sure_machine(TOWN, 1), sure_machine(TOWN, 2)],
            [((False, ((1, 1), (2, 2))), (True, ((2, 3),)), (True, ((1, 3),)), (True, ())),
             ((False, ((1, 1), (2, 2))), (True, ()), (True, ((1, 1),)))])

    def test_against_the_sure_rounds(self):
        found = set()
        for seed in range(150):
            town = random_town(seed)
            for g in range(len(town[0]) + 3):
                words = sure_rounds(town, g)
                machine = sure_machine(town, g)
                self.assertEqual(machine, machine_of_words(words))
                self.assertIs(is_least(machine), True)
                found.add(len(machine))
        self.assertGreater(len(found), 5)

    def test_against_all_days(self):
        for seed in range(40):
            town = random_town(seed)
            if len(town[0]) <= 3:
                for g in range(3):
                    words = [tour for tour in rounds(town) if is_sure_by_days(town, tour, g)]
                    self.assertEqual(sure_machine(town, g), machine_of_words(words))

    def test_no_sure_rounds(self):
        for town in (EMPTY, (TOWN[0], (), 20, 2), TOWN[:2] + (0, 2), TOWN[:3] + (0,), ((), (), 0, 0)):
            for g in (0, 1, 8):
                self.assertEqual(sure_machine(town, g), NONE)

    def test_sure_only_for_some(self):
        town = TOWN[:2] + (8, 2)
        self.assertEqual(words_of(sure_machine(town, 0)), [(1,), (1, 2), (2,)])
        self.assertEqual(words_of(sure_machine(town, 1)), [(1,)])
        self.assertEqual(words_of(sure_machine(town, 2)), [(1,)])
        self.assertEqual(words_of(sure_machine(TOWN[:2] + (5, 2), 0)), [(1,)])

    def test_fewer_legs_than_places(self):
        town = ((TOWN[0][0],) * 5, ((0, 5, 1, 1, 1), (5, 0, 1, 1, 1)), 20, 2)
        self.assertEqual(sure_machine(town, 2), ((False, ((5, 1),)), (True, ())))

    def test_the_way_home_alone_is_missing(self):
        # Home only from 2, so 1 alone is no round, but (1, 2) is.
        legs = ((0, 1, 1, 1, 1), (0, 2, 1, 1, 1), (1, 2, 1, 1, 1), (2, 0, 1, 1, 1))
        town = (((0, 9, 0, 0, 0, 0),) * 2, legs, 9, 0)
        self.assertEqual(sure_machine(town, 1), ((False, ((1, 1), (2, 2))), (False, ((2, 2),)), (True, ())))

    def test_home_too_late_from_the_first_place_alone(self):
        # From 1 the way home is too long, by way of 2 it is not.
        legs = ((0, 1, 1, 1, 1), (1, 0, 9, 9, 1), (1, 2, 1, 1, 1), (2, 0, 1, 1, 1))
        town = (((0, 9, 0, 0, 0, 0),) * 2, legs, 5, 0)
        self.assertEqual(sure_machine(town, 3), ((False, ((1, 1),)), (False, ((2, 2),)), (True, ())))

    def test_what_was_served_before_does_not_matter(self):
        # (1, 2) and (2, 1) lead to one state, though at other times.
        machine = sure_machine(full_town(2), 1)
        self.assertEqual(machine, ((False, ((1, 1), (2, 2))), (True, ((2, 3),)), (True, ((1, 3),)), (True, ())))

    def test_budgets_beyond_the_legs(self):
        for town in (TOWN, ONE, EMPTY, random_town(5)):
            last = sure_machine(town, len(town[0]) + 1)
            for g in (*range(len(town[0]) + 1, 14), 10 ** 39):
                self.assertEqual(sure_machine(town, g), last)

    def test_six_places(self):
        tight = (SIX[0], SIX[1], 70, 12)
        for town in (SIX, tight):
            for g in (0, 1, 8):
                self.check_six(town, g)

    def check_six(self, town, g):
        machine = sure_machine(town, g)
        words = set(sure_rounds(town, g))
        self.assertEqual(machine, machine_of_words(words))
        self.assertLessEqual(len(machine), 530)
        self.assertEqual(count(machine), len(words))
        for tour in rounds(town):
            self.assertIs(accepts(machine, tour), tour in words)

    def test_errors(self):
        for odd in (*ODD, *with_lists(ONE), *with_bools(ONE), TOWN[:3], NONE):
            for g in (0, None, True, -1):
                with self.assertRaises(BadTown) as caught:
                    sure_machine(odd, g)
                self.assertIs(caught.exception.thing, odd)
        for odd in (None, True, False, -1, -10 ** 39, "", "1", (), (1,), [], [1], {}):
            for town in (TOWN, EMPTY, SIX):
                with self.assertRaises(BadBudget) as caught:
                    sure_machine(town, odd)
                self.assertIs(caught.exception.thing, odd)


if __name__ == "__main__":
    unittest.main()
