"""What a machine is, which words it accepts, and where they stand."""

import unittest
from itertools import product
from random import Random

from latebyfew.errors import BadMachine, BadNumber, BadWord
from latebyfew.machines import accepts, count, is_least, is_machine, least, place_of, sure_machine, word_at
from reference import random_machine, words_of
from samples import ODD, SIX, TOWN, changed, resized, with_bools, with_lists

NONE = ((False, ()),)
EMPTY_WORD = ((True, ()),)
WORDS = ((False, ((1, 1), (2, 2))), (True, ((2, 3),)), (True, ((1, 3),)), (True, ()))
# The state 0 stands behind others, which cannot be reached; 4 and 5 lead nowhere.
TANGLED = (
    (True, ((2, 3), (5, 1))), (False, ((1, 3), (9, 4))), (True, ((1, 0), (3, 6))), (True, ()), (False, ((1, 5),)),
    (False, ()), (False, ((2, 0),)),
)


def long_row(many, is_end=False):
    """States in one long row, each one move behind the one before."""
    row = [(is_end, ((1, k + 1),)) for k in range(many - 1)]
    return tuple(row + [(True, ())])


def beside_long_row(many):
    """A machine with the words (3,) and (), beside a long row that cannot be reached."""
    row = [(False, ((1, k + 3),)) for k in range(many - 3)]
    return ((True, ((3, 1),)), (True, ()), *row, (False, ()))


def with_state(k, state, machine=WORDS):
    return machine[:k] + (state,) + machine[k + 1:]


MACHINES = (NONE, EMPTY_WORD, WORDS, TANGLED, beside_long_row(600), sure_machine(TOWN, 1), sure_machine(TOWN, 2),
            *[random_machine(Random(seed), 1 + seed % 14) for seed in range(120)])


class Machines(unittest.TestCase):
    def test_machines(self):
        for machine in MACHINES:
            self.assertIs(is_machine(machine), True)

    def test_other_values(self):
        for odd in (*ODD, TOWN, (), "machine", (False, ()), [(False, ())], ((),), ((False,),), ((False, (), ()),)):
            self.assertIs(is_machine(odd), False, odd)

    def test_odd_values_as_parts(self):
        for odd in ODD:
            self.assertIs(is_machine((odd,)), False)
            self.assertIs(is_machine(WORDS + (odd,)), False)
            if not isinstance(odd, bool):
                self.assertIs(is_machine(with_state(3, (odd, ()))), False, odd)
            if odd != () or isinstance(odd, list):
                self.assertIs(is_machine(with_state(3, (True, odd))), False, odd)
            self.assertIs(is_machine(with_state(1, (True, (odd,)))), False)
            if odd is True or odd not in (1, 10 ** 39):
                self.assertIs(is_machine(with_state(1, (True, ((odd, 3),)))), False, odd)
            self.assertIs(is_machine(with_state(2, (True, ((1, odd),)))), odd == 1 and odd is not True, odd)

    def test_lists(self):
        for machine in (NONE, WORDS, TANGLED):
            for other in with_lists(machine):
                self.assertIs(is_machine(other), False)

    def test_numbers_for_bools_and_bools_for_numbers(self):
        for machine in (NONE, EMPTY_WORD, WORDS, TANGLED):
            others = [*changed(machine, True, 1), *changed(machine, False, 0), *with_bools(machine)]
            for other in others:
                self.assertEqual(other, machine)
                self.assertEqual([is_machine(thing) for thing in (other, machine, other)], [False, True, False])
            for other in [*changed(machine, True, None), *changed(machine, False, ""), *changed(machine, True, "1")]:
                self.assertIs(is_machine(other), False)

    def test_parts_left_out_or_more(self):
        # A last state that no move leads to can be there or not; a move can be left out.
        self.assertIs(is_machine(WORDS + ((False, ()),)), True)
        self.assertIs(is_machine(WORDS[:3]), False)
        for k in range(3):
            for other in resized(WORDS[k]):
                good = len(other) == 2 and isinstance(other[0], bool) and isinstance(other[1], tuple)
                good = good and other[1] in ((), WORDS[k][1][:1], WORDS[k][1][1:])
                self.assertIs(is_machine(with_state(k, other)), good, other)

    def test_letters(self):
        for letter, expected in ((1, True), (9, True), (10 ** 39, True), (0, False), (-1, False), (True, False),
                                 ("1", False), (None, False), ((1,), False), ([1], False)):
            self.assertIs(is_machine(((False, ((letter, 1),)), (True, ()))), expected)
            # Also where no word comes by.
            self.assertIs(is_machine(EMPTY_WORD + ((False, ((letter, 0),)),)), expected)

    def test_letters_out_of_order_or_twice(self):
        for moves, expected in ((((1, 1), (2, 1)), True), (((2, 1), (1, 1)), False), (((1, 1), (1, 1)), False),
                                (((1, 1), (1, 2)), False), (((1, 2), (2, 1)), True), (((2, 1), (1, 2)), False),
                                (((1, 1), (3, 1), (2, 1)), False), (((1, 1), (2, 1), (2, 2)), False),
                                (((1, 1), (2, 1), (1, 1)), False), (((1, 1), (3, 2), (9, 1)), True)):
            self.assertIs(is_machine(((False, moves), (True, ()), (True, ()))), expected)
            self.assertIs(is_machine(((True, ()), (True, ()), (True, ()), (False, moves))), expected)

    def test_states_that_are_none(self):
        for state, expected in ((1, True), (2, False), (3, False), (-1, False), (True, False), ("1", False),
                                (None, False), ((True, ()), False), (10 ** 39, False)):
            self.assertIs(is_machine(((False, ((1, state),)), (True, ()))), expected)

    def test_moves_that_are_none(self):
        for move in ((), (1,), (1, 1, 1), [1, 1], 1, None, "11", ((1, 1),), {1: 1}):
            self.assertIs(is_machine(((False, (move,)), (True, ()))), False)

    def test_ways_back(self):
        for machine in (
                ((True, ((1, 0),)),),
                ((False, ((1, 1),)), (True, ((1, 0),))),
                ((False, ((1, 1),)), (True, ((1, 1),))),
                ((False, ((1, 1), (2, 2))), (True, ((1, 2),)), (False, ((1, 1),))),
                ((False, ((1, 1),)), (False, ((1, 2),)), (False, ((1, 3),)), (True, ((4, 1),)))):
            self.assertIs(is_machine(machine), False)

    def test_ways_back_that_cannot_be_reached(self):
        for machine in (
                ((True, ()), (False, ((1, 1),))),
                ((True, ()), (False, ((1, 2),)), (True, ((2, 1),))),
                ((True, ()), (False, ((1, 0), (2, 2))), (True, ((2, 1),))),
                ((False, ((1, 1),)), (True, ()), (False, ((1, 3),)), (False, ((1, 4),)), (True, ((1, 1), (2, 2))))):
            self.assertIs(is_machine(machine), False)

    def test_moves_to_lower_states(self):
        self.assertIs(is_machine(((True, ()), (True, ((1, 0),)), (True, ((1, 0), (2, 1))))), True)
        self.assertIs(is_machine(((False, ((1, 2),)), (True, ()), (False, ((1, 1),)))), True)

    def test_each_way_back_into_a_machine(self):
        # A further move from the last state makes a way back, unless it leads to an unrelated one.
        for k in range(3):
            self.assertIs(is_machine(WORDS[:3] + ((True, ((1, k),)),)), False)
        self.assertIs(is_machine(WORDS[:3] + ((True, ((1, 4),)), (True, ()))), True)

    def test_long_rows(self):
        for many in (600, 900):
            for is_end in (True, False):
                row = long_row(many, is_end)
                self.assertIs(is_machine(row), True)
                for back in (0, 1, many // 2, many - 1):
                    self.assertIs(is_machine(row[:-1] + ((True, ((1, back),)),)), False)
            self.assertIs(is_machine(beside_long_row(many)), True)
            turned = tuple((state[0], tuple((1, many - 1 - move[1]) for move in state[1])) for state in long_row(many))
            self.assertIs(is_machine(turned[::-1]), True)

    def test_many_rows_of_moves(self):
        # 9 moves from each of many states: far more rows of moves than could be followed one by one.
        dense = tuple((False, tuple((k, at + k) for k in range(1, 10) if at + k < 300)) for at in range(300))
        self.assertIs(is_machine(dense), True)
        self.assertIs(is_machine(dense[:-1] + ((True, ((1, 5),)),)), False)
        self.assertIs(is_machine(EMPTY_WORD + ((True, ()),) * 599), True)


class Words(unittest.TestCase):
    def test_the_examples(self):
        one = sure_machine(TOWN, 1)
        self.assertEqual(
            [count(one), word_at(one, 1), place_of(one, (2, 1)), place_of(one, (3,)), accepts(one, ())],
            [4, (1, 2), 3, None, False])

    def test_against_all_words(self):
        for machine in MACHINES:
            found = sorted(words_of(machine))
            self.assertEqual(count(machine), len(found))
            self.assertEqual([word_at(machine, k) for k in range(len(found))], found)
            self.assertEqual([place_of(machine, word) for word in found], list(range(len(found))))
            for word in found:
                self.assertIs(accepts(machine, word), True)

    def test_words_that_are_not_accepted(self):
        draw = Random(4)
        for machine in MACHINES:
            found = set(words_of(machine))
            tried = [(), *product(range(1, 6), repeat=1), *product(range(1, 5), repeat=2), *product((1, 2), repeat=4)]
            for word in sorted(found)[:20]:
                tried += [word[:-1], word + (1,), word + (draw.randint(1, 4),), word[::-1], (2, *word)]
            for word in tried:
                self.assertIs(accepts(machine, word), word in found)
                if word not in found:
                    self.assertIsNone(place_of(machine, word))

    def test_letters_beyond_all_moves(self):
        for word in ((10 ** 39,), (1, 10 ** 39), (10, 1), (7,) * 9, (1,) * 600):
            for machine in (NONE, EMPTY_WORD, WORDS):
                self.assertIs(accepts(machine, word), False)
                self.assertIsNone(place_of(machine, word))
        large = ((False, ((5, 1), (10 ** 20, 1))), (True, ()))
        self.assertEqual([place_of(large, (10 ** 20,)), word_at(large, 1)], [1, (10 ** 20,)])

    def test_ascending_as_python_sorts(self):
        # Beginnings first, and (10,) behind (9, 9).
        machine = ((True, ((2, 1), (9, 1), (10, 2))), (True, ((1, 2), (9, 2))), (True, ()))
        found = [(), (2,), (2, 1), (2, 9), (9,), (9, 1), (9, 9), (10,)]
        self.assertEqual([word_at(machine, k) for k in range(count(machine))], found)
        self.assertEqual([place_of(machine, word) for word in found], list(range(8)))

    def test_no_words_and_the_empty_word(self):
        self.assertEqual([count(NONE), accepts(NONE, ()), place_of(NONE, ()), place_of(NONE, (1,))],
                         [0, False, None, None])
        self.assertEqual([count(EMPTY_WORD), accepts(EMPTY_WORD, ()), place_of(EMPTY_WORD, ()),
                          word_at(EMPTY_WORD, 0), accepts(EMPTY_WORD, (1,))], [1, True, 0, (), False])
        nowhere = ((False, ((1, 1), (2, 2))), (False, ((1, 2),)), (False, ()))
        self.assertEqual([count(nowhere), accepts(nowhere, (1, 1)), place_of(nowhere, (1, 1))], [0, False, None])

    def test_only_what_is_reached_counts(self):
        self.assertEqual(count(beside_long_row(600)), 2)
        self.assertEqual([word_at(beside_long_row(600), k) for k in range(2)], [(), (3,)])
        self.assertEqual(count(((False, ()), (True, ()), (True, ((1, 1),)))), 0)
        self.assertEqual(count(TANGLED), 3)

    def test_six_places(self):
        machine = sure_machine(SIX, 0)
        found = sorted(words_of(machine))
        self.assertEqual([word_at(machine, k) for k in range(count(machine))], found)
        self.assertEqual([place_of(machine, word) for word in found], list(range(len(found))))

    def test_more_words_than_could_be_listed(self):
        doubling = tuple((False, ((1, k + 1), (2, k + 1))) for k in range(60)) + ((True, ()),)
        self.assertEqual(count(doubling), 2 ** 60)
        self.assertEqual(word_at(doubling, 2 ** 60 - 1), (2,) * 60)
        self.assertEqual(place_of(doubling, (1,) * 59 + (2,)), 1)


class Errors(unittest.TestCase):
    def test_bad_machine(self):
        functions = (count, least, is_least, lambda machine: accepts(machine, ()), lambda machine: accepts(machine, 0),
                     lambda machine: word_at(machine, 0), lambda machine: word_at(machine, None),
                     lambda machine: place_of(machine, ()), lambda machine: place_of(machine, [1]))
        wrong = [*ODD, (), [(True, ())], ((1, ()),), ((True, ((1, 0),)),), ((True, ()), (False, ((1, 1),))),
                 *with_lists(WORDS), *with_bools(WORDS), *changed(WORDS, True, 1), WORDS[:3],
                 long_row(600)[:-1] + ((True, ((1, 300),)),)]
        for odd in wrong:
            for function in functions:
                with self.assertRaises(BadMachine) as caught:
                    function(odd)
                self.assertIs(caught.exception.thing, odd)

    def test_bad_word(self):
        for odd in (None, 0, 1, True, "", "1", [], [1], {}, {1: 2}, (0,), (1, 0), (-1,), (True,), (1, False), ("1",),
                    (1, None), ((1,),), (1, [2]), (1, 2, -10 ** 39), NONE):
            for machine in (NONE, WORDS, TANGLED):
                for function in (accepts, place_of):
                    with self.assertRaises(BadWord) as caught:
                        function(machine, odd)
                    self.assertIs(caught.exception.thing, odd)

    def test_bad_word_behind_what_is_not_accepted(self):
        # Also where the letters ahead of the wrong one lead to no state.
        for odd in ((7, 0), (7, True), (7, 7, 7, None)):
            for function in (accepts, place_of):
                with self.assertRaises(BadWord):
                    function(WORDS, odd)

    def test_bad_number(self):
        for machine in (NONE, EMPTY_WORD, WORDS, TANGLED):
            many = count(machine)
            for odd in (many, many + 1, -1, -many, 10 ** 39, -10 ** 39, True, False, None, "0", "", (), (0,), [0], {}):
                if odd in range(many) and not isinstance(odd, bool):
                    continue
                with self.assertRaises(BadNumber) as caught:
                    word_at(machine, odd)
                self.assertIs(caught.exception.thing, odd)


if __name__ == "__main__":
    unittest.main()
