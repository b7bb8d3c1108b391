"""Machines and towns compared, and the falling counts."""

import unittest
from random import Random

from latebyfew.compared import is_surer, is_within, joined, parted, parting_round, sure_counts
from latebyfew.errors import BadBudget, BadHow, BadMachine, BadTown
from latebyfew.machines import is_least, least, sure_machine
from reference import machine_moved, machine_of_words, random_machine, sure_rounds, words_of
from samples import EMPTY, ODD, ONE, TOWN, full_town, random_town, with_bools, with_lists

OPEN = (((0, 9, 1, 1, 0, 5), (4, 8, 1, 1, 0, 5)),) + TOWN[1:]
NONE = ((False, ()),)
EMPTY_WORD = ((True, ()),)
HOWS = ("both", "either", "first")
MACHINES = (NONE, EMPTY_WORD, sure_machine(TOWN, 1), sure_machine(TOWN, 2),
            *[random_machine(Random(seed), 1 + seed % 9) for seed in range(40)])
NO_MACHINES = (None, 0, True, "", (), [], {}, TOWN, (False, ()), [(True, ())], ((1, ()),), ((True, ((1, 0),)),),
               ((True, ((0, 1),)), (True, ())), ((True, ((2, 1), (1, 1))), (True, ())),
               ((True, ()), (False, ((1, 1),))), *with_lists(EMPTY_WORD), *with_bools(sure_machine(TOWN, 2)))


def joined_by_definition(one, two, how):
    """The least machine of the joined words."""
    first, second = set(words_of(one)), set(words_of(two))
    return machine_of_words({"both": first & second, "either": first | second, "first": first - second}[how])


def least_parted(one, two):
    """The least row, by length first, that is in exactly one of two sets."""
    return min(set(one) ^ set(two), key=lambda word: (len(word), word), default=None)


def pairs_of_machines():
    draw = Random(1)
    yield from [(one, two) for one in MACHINES[:12] for two in MACHINES[:12]]
    yield from [(draw.choice(MACHINES), draw.choice(MACHINES)) for _ in range(250)]


class Machines(unittest.TestCase):
    def test_the_example(self):
        one, two = sure_machine(TOWN, 1), sure_machine(TOWN, 2)
        self.assertEqual(
            [parted(one, two), is_within(two, one), joined(one, two, "both") == two,
             joined(one, two, "either") == one, joined(one, two, "first")],
            [(1, 2), True, True, True, ((False, ((1, 1),)), (False, ((2, 2),)), (True, ()))])

    def test_joined(self):
        for one, two in pairs_of_machines():
            for how in HOWS:
                found = joined(one, two, how)
                self.assertEqual(found, joined_by_definition(one, two, how))
                self.assertIs(is_least(found), True)
                self.assertTrue(all(isinstance(state[0], bool) for state in found))

    def test_joined_of_itself_and_of_none(self):
        for machine in MACHINES:
            small = least(machine)
            self.assertEqual([joined(machine, machine, how) for how in HOWS], [small, small, NONE])
            self.assertEqual([joined(machine, NONE, how) for how in HOWS], [NONE, small, small])
            self.assertEqual([joined(NONE, machine, how) for how in HOWS], [NONE, small, NONE])

    def test_joined_is_not_the_other_way_round(self):
        long = machine_of_words([(1,), (1, 2), (3,)])
        short = machine_of_words([(1,), (2,)])
        self.assertEqual(sorted(words_of(joined(long, short, "first"))), [(1, 2), (3,)])
        self.assertEqual(sorted(words_of(joined(short, long, "first"))), [(2,)])
        self.assertEqual(sorted(words_of(joined(long, short, "either"))), [(1,), (1, 2), (2,), (3,)])
        self.assertEqual(joined(long, short, "both"), joined(short, long, "both"))

    def test_joined_with_all_letters(self):
        one = machine_of_words([(letter,) for letter in (1, 5, 8)] + [(8, 2), (8, 9)])
        two = machine_of_words([(letter,) for letter in range(2, 10)] + [(8, 1), (8, 9, 8)])
        for how in HOWS:
            for first, second in ((one, two), (two, one), (one, one)):
                self.assertEqual(joined(first, second, how), joined_by_definition(first, second, how))
        self.assertEqual([parted(one, two), parted(two, one)], [(1,), (1,)])
        self.assertEqual([parted(one, joined(one, two, "either")), parted(two, joined(one, two, "either"))],
                         [(2,), (1,)])

    def test_parted(self):
        for one, two in pairs_of_machines():
            expected = least_parted(words_of(one), words_of(two))
            self.assertEqual(parted(one, two), expected)
            self.assertEqual(parted(two, one), expected)

    def test_parted_by_length_first(self):
        one = machine_of_words([(1, 1, 1), (3,), (2, 2)])
        two = machine_of_words([(2, 2), (4,)])
        for first, second in ((one, two), (two, one)):
            self.assertEqual(parted(first, second), (3,))
        self.assertEqual(parted(machine_of_words([(1, 1), (2, 1)]), machine_of_words([(2, 1), (1, 2)])), (1, 1))
        self.assertEqual(parted(machine_of_words([(1, 9), (2, 1)]), machine_of_words([(2, 1), (3, 1)])), (1, 9))
        self.assertEqual(parted(machine_of_words([(1, 1, 1)]), machine_of_words([(9, 9)])), (9, 9))

    def test_parted_by_the_empty_word(self):
        self.assertEqual(parted(EMPTY_WORD, NONE), ())
        self.assertEqual(parted(NONE, EMPTY_WORD), ())
        self.assertIsNone(parted(NONE, NONE))
        self.assertIsNone(parted(EMPTY_WORD, EMPTY_WORD))

    def test_parted_none_for_the_same_words(self):
        for machine in MACHINES:
            order = [0, *range(len(machine) - 1, 0, -1)]
            for other in (machine, least(machine), machine_moved(machine, order), machine + ((True, ((9, 0),)),)):
                self.assertIsNone(parted(machine, other))
                self.assertIs(is_within(machine, other), True)

    def test_is_within(self):
        answers = [0, 0]
        for one, two in pairs_of_machines():
            expected = set(words_of(one)) <= set(words_of(two))
            self.assertIs(is_within(one, two), expected)
            answers[expected] += 1
        self.assertGreater(min(answers), 20)

    def test_is_within_both_ways(self):
        large = machine_of_words([(), (1,), (1, 2), (2,)])
        small = machine_of_words([(), (1, 2)])
        other = machine_of_words([(), (3,)])
        self.assertEqual([is_within(small, large), is_within(large, small)], [True, False])
        self.assertEqual([is_within(small, other), is_within(other, small)], [False, False])
        self.assertEqual([is_within(NONE, large), is_within(large, NONE), is_within(NONE, NONE)], [True, False, True])

    def test_60_states(self):
        rows = [random_machine(Random(seed), 60) for seed in range(6)]
        for one, two in zip(rows, rows[1:]):
            for how in HOWS:
                self.assertEqual(joined(one, two, how), joined_by_definition(one, two, how))
            self.assertEqual(parted(one, two), least_parted(words_of(one), words_of(two)))
            self.assertIs(is_within(joined(one, two, "both"), one), True)

    def test_all_pairs_of_states(self):
        # 9 letters and long rows that do not meet: many pairs of states come up.
        one = tuple((k % 7 == 0, tuple((letter, k + 1) for letter in range(1, 10))) for k in range(59)) + EMPTY_WORD
        two = tuple((k % 5 == 0, tuple((letter, k + 1 + letter % 2) for letter in range(1, 10) if k + 2 < 60))
                    for k in range(60))
        # Odd letters go two states on in the second one, which comes to its state 5 first.
        self.assertEqual(parted(one, two), (1, 1, 2))
        self.assertEqual([is_within(one, two), is_within(two, one)], [False, False])


class MachineErrors(unittest.TestCase):
    def test_bad_machine(self):
        functions = (parted, is_within, *[lambda one, two, how=how: joined(one, two, how)
                                          for how in (*HOWS, "none", None, [])])
        for odd in NO_MACHINES:
            for function in functions:
                for one, two in ((odd, EMPTY_WORD), (EMPTY_WORD, odd), (odd, None), (odd, [])):
                    with self.assertRaises(BadMachine) as caught:
                        function(one, two)
                    self.assertIs(caught.exception.thing, odd)

    def test_bad_how(self):
        for odd in (*ODD, "Both", "both ", "second", "just one", "one", "neither", ("both",), ["both"], {"both": 1},
                    ("both", "either", "first"), "botheitherfirst", 2):
            with self.assertRaises(BadHow) as caught:
                joined(EMPTY_WORD, NONE, odd)
            self.assertIs(caught.exception.thing, odd)


class Towns(unittest.TestCase):
    def test_the_example(self):
        self.assertEqual(
            [parting_round(TOWN, OPEN, 1), parting_round(TOWN, OPEN, 2), is_surer(OPEN, TOWN, 2),
             is_surer(TOWN, OPEN, 2), sure_counts(TOWN), sure_counts(OPEN)],
            [None, (1, 2), True, False, (4, 4, 3, 3), (4, 4, 4, 4)])

    def test_pairs_of_towns(self):
        towns = [TOWN, OPEN, EMPTY, ONE, *[random_town(seed) for seed in range(60)]]
        found = set()
        for one, two in [*zip(towns, towns[1:]), *zip(towns, towns[3:]), *zip(towns[::-1], towns[10:])]:
            for g in (0, 1, 2, 5):
                first, second = sure_rounds(one, g), sure_rounds(two, g)
                expected = least_parted(first, second)
                self.assertEqual(parting_round(one, two, g), expected)
                self.assertEqual(parting_round(two, one, g), expected)
                self.assertIs(is_surer(one, two, g), set(second) <= set(first))
                self.assertIs(is_surer(two, one, g), set(first) <= set(second))
                self.assertIs(expected is None, sure_machine(one, g) == sure_machine(two, g))
                found.add((expected is None, set(second) <= set(first), len(one[0]) == len(two[0])))
        self.assertEqual(found, {(True, True, True), (False, True, True), (False, False, True),
                                 (True, True, False), (False, True, False), (False, False, False)})

    def test_towns_that_change_a_little(self):
        draw = Random(6)
        for seed in range(80):
            town = random_town(seed)
            legs = tuple(leg[:3] + (leg[3] + draw.choice((0, 0, 2)),) + leg[4:] for leg in town[1])
            slower = (town[0], legs, town[2] - draw.choice((0, 1)), town[3])
            for g in range(4):
                self.assertEqual(parting_round(town, slower, g),
                                 least_parted(sure_rounds(town, g), sure_rounds(slower, g)))
                self.assertIs(is_surer(town, slower, g), True)
                self.assertIs(is_surer(slower, town, g), parting_round(town, slower, g) is None)

    def test_alike_for_some_budgets_alone(self):
        for g, expected in ((0, None), (1, None), (2, (1, 2)), (3, (1, 2)), (8, (1, 2))):
            self.assertEqual([parting_round(TOWN, OPEN, g), parting_round(OPEN, TOWN, g)], [expected] * 2)
            self.assertEqual([is_surer(OPEN, TOWN, g), is_surer(TOWN, OPEN, g)], [True, expected is None])

    def test_the_least_is_the_shortest(self):
        # (1, 2) is sure in one town alone, and so is (3,), which is longer in value but shorter.
        places = ((0, 9, 0, 0, 0, 0),) * 3
        out = ((0, 1, 1, 1, 1), (0, 2, 1, 1, 1), (0, 3, 1, 1, 1), (1, 2, 1, 1, 1), (2, 0, 1, 1, 1))
        more = out[:-1] + ((2, 0, 1, 1, 1), (3, 0, 1, 1, 1))
        fewer = tuple(leg for leg in out if leg[:2] != (1, 2))
        self.assertEqual(parting_round((places, more, 9, 0), (places, fewer, 9, 0), 1), (3,))
        self.assertEqual(parting_round((places, out, 9, 0), (places, fewer, 9, 0), 1), (1, 2))

    def test_other_numbers_of_places(self):
        larger = full_town(4)
        smaller = (larger[0][:3], tuple(leg for leg in larger[1] if max(leg[:2]) < 4), larger[2], larger[3])
        self.assertEqual([parting_round(larger, smaller, 0), parting_round(smaller, larger, 0)], [(4,), (4,)])
        self.assertEqual([is_surer(larger, smaller, 0), is_surer(smaller, larger, 0)], [True, False])
        self.assertEqual([parting_round(EMPTY, TOWN, 1), is_surer(EMPTY, TOWN, 1), is_surer(TOWN, EMPTY, 1)],
                         [(1,), False, True])
        unreached = (TOWN[0] + TOWN[0],) + TOWN[1:]
        self.assertEqual([parting_round(TOWN, unreached, 1), is_surer(TOWN, unreached, 1),
                          is_surer(unreached, TOWN, 1)], [None, True, True])

    def test_five_places(self):
        one = full_town(5)
        two = one[:2] + (60, one[3])
        for g in (0, 2, 8):
            first, second = sure_rounds(one, g), sure_rounds(two, g)
            self.assertEqual(parting_round(one, two, g), least_parted(first, second))
            self.assertEqual([is_surer(one, two, g), is_surer(two, one, g)],
                             [True, set(first) == set(second)])


class Counts(unittest.TestCase):
    def test_by_definition(self):
        falls = 0
        for seed in range(150):
            town = random_town(seed)
            many = len(town[0])
            found = sure_counts(town)
            self.assertEqual(found, tuple(len(sure_rounds(town, g)) for g in range(many + 2)))
            self.assertEqual(found, tuple(sorted(found, reverse=True)))
            self.assertEqual([len(sure_rounds(town, g)) for g in (many + 2, many + 5)], [found[-1]] * 2)
            falls += found[0] > found[-1]
        self.assertGreater(falls, 20)

    def test_without_places_or_rounds(self):
        self.assertEqual(sure_counts(EMPTY), (0, 0))
        self.assertEqual(sure_counts((TOWN[0], (), 20, 2)), (0, 0, 0, 0))
        self.assertEqual(sure_counts(TOWN[:2] + (3, 2)), (0, 0, 0, 0))

    def test_each_step(self):
        # Three legs of at most 1 each: home is reached by end less the late legs.
        legs = ((0, 1, 0, 1, 0), (1, 2, 0, 1, 0), (2, 0, 0, 1, 0))
        places = ((0, 9, 0, 0, 0, 0),) * 2
        self.assertEqual([sure_counts((places, legs, end, 0)) for end in range(4)],
                         [(1, 0, 0, 0), (1, 1, 0, 0), (1, 1, 1, 0), (1, 1, 1, 1)])

    def test_five_places(self):
        town = full_town(5)
        self.assertEqual(sure_counts(town), tuple(len(sure_rounds(town, g)) for g in range(7)))


class TownErrors(unittest.TestCase):
    def test_bad_town(self):
        for odd in (*ODD, *with_lists(ONE), *with_bools(ONE), TOWN[:3], NONE):
            with self.assertRaises(BadTown) as caught:
                sure_counts(odd)
            self.assertIs(caught.exception.thing, odd)
            for function in (parting_round, is_surer):
                for one, two in ((odd, TOWN), (TOWN, odd), (odd, None), (odd, [])):
                    for g in (0, None, True, -1):
                        with self.assertRaises(BadTown) as caught:
                            function(one, two, g)
                        self.assertIs(caught.exception.thing, odd)

    def test_bad_budget(self):
        for odd in (None, True, False, -1, -10 ** 39, "", "1", (), (1,), [], [1], {}):
            for function in (parting_round, is_surer):
                for one, two in ((TOWN, OPEN), (TOWN, TOWN), (EMPTY, EMPTY)):
                    with self.assertRaises(BadBudget) as caught:
                        function(one, two, odd)
                    self.assertIs(caught.exception.thing, odd)


if __name__ == "__main__":
    unittest.main()
