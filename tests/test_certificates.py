"""What sure_holds takes for a certificate, and what not."""

import unittest
from itertools import chain, combinations, permutations, product
from random import Random

from latebyfew.rounds import rounds
from latebyfew.sure import judge_sure, sure_holds, worst_begins
from reference import attacks, bounds, is_right_table
from samples import ODD, ONE, SIX, TOWN, changed, random_town, resized, with_bools, with_lists

TABLE = ((2, 4), (4, 6), (8, 10))
# One place, 4 to 7, with room for tables that fall within a row.
WIDE = (((4, 30, 2, 0, 0, 0), (0, 40, 0, 0, 0, 0)), ((0, 1, 1, 3, 0), (1, 2, 1, 2, 0), (2, 0, 0, 5, 0)), 60, 0)
QUICK = (((0, 1, 0, 0, 0, 0),), ((0, 1, 0, 1, 0), (1, 0, 0, 0, 0)), 1, 0)


def entries_changed(table, by):
    """All tables with one entry changed by that much."""
    for stop, row in enumerate(table):
        for j, begin in enumerate(row):
            yield table[:stop] + (row[:j] + (begin + by,) + row[j + 1:],) + table[stop + 1:]


class Tables(unittest.TestCase):
    def check(self, town, tour, g, thing, expected):
        self.assertIs(sure_holds(town, tour, g, thing), expected, (town, tour, g, thing))

    def test_the_examples(self):
        self.check(TOWN, (1, 2), 1, ("sure", ((2, 4), (4, 6), (8, 10))), True)
        self.check(TOWN, (1, 2), 1, ("sure", ((2, 5), (4, 7), (8, 12))), True)
        self.check(TOWN, (1, 2), 1, ("sure", ((2, 4), (4, 5), (8, 10))), False)
        self.check(TOWN, (1, 2), 3, ("attack", (0, 1), 1), True)

    def test_an_entry_below_what_it_must_be(self):
        for table in entries_changed(TABLE, -1):
            self.check(TOWN, (1, 2), 1, ("sure", table), False)
        for table in entries_changed(worst_begins(SIX, (1, 3, 2), 4), -1):
            self.check(SIX, (1, 3, 2), 4, ("sure", table), False)

    def test_entries_up_to_shut_and_end(self):
        self.check(TOWN, (1, 2), 1, ("sure", ((2, 4), (4, 6), (8, 20))), True)
        self.check(TOWN, (1, 2), 1, ("sure", ((2, 4), (4, 6), (20, 20))), True)
        self.check(TOWN, (1, 2), 1, ("sure", ((2, 4), (4, 6), (8, 21))), False)
        self.check(TOWN, (1, 2), 1, ("sure", ((2, 4), (4, 7), (8, 11))), True)
        self.check(TOWN, (1, 2), 1, ("sure", ((2, 4), (4, 8), (8, 11))), False)
        self.check(TOWN, (1, 2), 1, ("sure", ((2, 4), (4, 7), (8, 10))), False)
        self.check(TOWN, (2, 1), 1, ("sure", ((7, 7), (9, 9), (13, 13))), True)
        self.check(TOWN, (2, 1), 1, ("sure", ((7, 7), (10, 10), (14, 14))), False)
        self.check(TOWN, (2, 1), 1, ("sure", ((7, 8), (9, 9), (13, 13))), False)

    def test_the_row_of_the_first_stop(self):
        self.check(TOWN, (2, 1), 1, ("sure", ((3, 4), (6, 6), (9, 10))), False)
        self.check(TOWN, (2, 1), 1, ("sure", ((4, 3), (6, 6), (9, 10))), False)
        self.check(TOWN, (2, 1), 1, ("sure", ((4, 4), (6, 6), (9, 10))), True)
        self.check(TOWN, (1, 2), 1, ("sure", ((1, 4), (4, 6), (8, 10))), False)
        self.check(TOWN, (1, 2), 1, ("sure", ((2, 3), (4, 6), (8, 10))), False)

    def test_a_row_that_falls(self):
        self.check(WIDE, (1, 2), 1, ("sure", ((9, 4), (12, 13), (12, 17))), True)
        self.check(WIDE, (1, 2), 1, ("sure", ((9, 4), (12, 12), (12, 17))), False)
        self.check(WIDE, (1, 2), 1, ("sure", ((9, 3), (12, 13), (12, 17))), False)
        self.check(WIDE, (1, 2), 1, ("sure", ((9, 4), (12, 13), (60, 17))), True)

    def test_budget_0(self):
        self.check(TOWN, (1, 2), 0, ("sure", ((2,), (4,), (8,))), True)
        self.check(TOWN, (1, 2), 0, ("sure", ((9,), (11,), (15,))), False)
        self.check(TOWN, (1, 2), 0, ("sure", ((2,), (4,), (7,))), False)
        self.check(TOWN, (1, 2), 0, ("sure", ((), (), ())), False)

    def test_rows_and_columns_too_many_or_too_few(self):
        for g in range(4):
            table = worst_begins(TOWN, (2, 1), g)
            self.check(TOWN, (2, 1), g, ("sure", table), True)
            self.check(TOWN, (2, 1), g, ("sure", table[:-1]), False)
            self.check(TOWN, (2, 1), g, ("sure", table[1:]), False)
            self.check(TOWN, (2, 1), g, ("sure", table + table[-1:]), False)
            self.check(TOWN, (2, 1), g, ("sure", table + ((20,) * (g + 1),)), False)
            for other in (g - 1, g + 1):
                self.check(TOWN, (2, 1), g, ("sure", tuple((row + row[-1:])[:other + 1] for row in table)), False)
            for thing in resized(("sure", table)):
                self.check(TOWN, (2, 1), g, thing, False)

    def test_true_in_the_place_of_1(self):
        for g in range(4):
            thing = ("sure", worst_begins(QUICK, (1,), g))
            self.check(QUICK, (1,), g, thing, True)
            for other in with_bools(thing):
                self.assertEqual(other, thing)
                self.check(QUICK, (1,), g, other, False)
                self.check(QUICK, (1,), g, thing, True)

    def test_lists(self):
        for other in with_lists(("sure", TABLE)):
            self.check(TOWN, (1, 2), 1, other, False)

    def test_other_things_for_integers(self):
        for number in (2, 4, 6, 8, 10):
            for new in (None, str(number), (number,), [number], {number: number}, -number, True, "", ()):
                for other in changed(("sure", TABLE), number, new):
                    self.check(TOWN, (1, 2), 1, other, False)

    def test_all_small_tables(self):
        many = 0
        for numbers in product(range(-1, 4), repeat=4):
            table = (numbers[:2], numbers[2:])
            good = is_right_table(QUICK, (1,), 1, table)
            self.check(QUICK, (1,), 1, ("sure", table), good)
            many += good
        self.assertGreater(many, 2)

    def test_changed_tables(self):
        draw = Random(8)
        answers = [0, 0]
        for seed in range(60):
            town = random_town(seed)
            for tour in rounds(town):
                for g in (0, 1, 2, 5):
                    table = [list(row) for row in worst_begins(town, tour, g)]
                    for _ in range(draw.randint(0, 3)):
                        row = draw.choice(table)
                        row[draw.randrange(len(row))] += draw.choice((-1, 1, 1, 2, 3))
                    table = tuple(tuple(row) for row in table)
                    good = is_right_table(town, tour, g, table)
                    self.check(town, tour, g, ("sure", table), good)
                    answers[good] += 1
        self.assertGreater(min(answers), 60)

    def test_tables_of_another_round_or_budget(self):
        for town in (TOWN, WIDE, ONE):
            for tour, other in product(rounds(town), repeat=2):
                for g, h in product(range(4), repeat=2):
                    table = worst_begins(town, other, h)
                    self.check(town, tour, g, ("sure", table), is_right_table(town, tour, g, table))

    def test_the_largest_entries_that_are_let(self):
        for g in range(9):
            limits = bounds(SIX, (2, 1))
            rows = worst_begins(SIX, (2, 1), g)
            last = rows[:-1] + ((limits[-1],) * (g + 1),)
            self.check(SIX, (2, 1), g, ("sure", last), True)
            self.check(SIX, (2, 1), g, ("sure", rows[:-1] + ((limits[-1],) * g + (limits[-1] + 1,),)), False)


class Attacks(unittest.TestCase):
    def check(self, town, tour, g, thing, expected):
        self.assertIs(sure_holds(town, tour, g, thing), expected, (town, tour, g, thing))

    def test_all_rows_of_legs_and_all_stops(self):
        towns = [TOWN, ONE, WIDE[:2] + (13, 0), *[random_town(seed) for seed in range(25)]]
        many = 0
        for town in towns:
            for tour in [tour for tour in rounds(town) if len(tour) <= 3]:
                self.check_round(town, tour)
                many += len(attacks(town, tour, 2))
        self.assertGreater(many, 100)

    def check_round(self, town, tour):
        legs = range(-1, len(tour) + 2)
        rows = list(chain(*[permutations(legs, k) for k in range(3)], combinations(legs, 3)))
        for g in range(len(tour) + 2):
            good = set(attacks(town, tour, g))
            for late, stop in product(rows, range(-2, len(tour) + 3)):
                self.check(town, tour, g, ("attack", late, stop), (late, stop) in good)

    def test_too_many_legs(self):
        for g, expected in ((0, False), (1, False), (2, True), (3, True), (9, True), (10 ** 39, True)):
            self.check(TOWN, (1, 2), g, ("attack", (0, 1), 1), expected)
        for g, expected in ((1, False), (2, False), (3, True)):
            self.check(TOWN, (1, 2), g, ("attack", (0, 1, 2), 1), expected)

    def test_legs_out_of_order_or_twice(self):
        for late in ((1, 0), (0, 0, 1), (0, 1, 1), (0, 0), (1, 1), (0, 2, 1), (1, 0, 2), (2, 1, 0)):
            self.check(TOWN, (1, 2), 5, ("attack", late, 1), False)

    def test_a_stop_that_is_not_broken(self):
        for stop, expected in ((-2, False), (-1, False), (0, False), (1, True), (2, False), (3, False)):
            self.check(TOWN, (1, 2), 2, ("attack", (0, 1), stop), expected)
        for late in ((), (0,), (1,), (2,), (0, 2), (1, 2)):
            self.check(TOWN, (1, 2), 3, ("attack", late, 1), False)

    def test_legs_that_are_none(self):
        for late in ((0, 1, 3), (-1, 0, 1), (0, 1, 10 ** 39), (-3, -2), (0, 1, None), (0, 1, "2"), (0, (1,)), ((0, 1),),
                     (0, 1, [2]), [0, 1], "01", {0: 0, 1: 1}, None, 0, 2, True):
            self.check(TOWN, (1, 2), 5, ("attack", late, 1), False)

    def test_without_late_legs(self):
        late_home = TOWN[:2] + (7, 2)
        for g in range(3):
            self.check(late_home, (1, 2), g, ("attack", (), 2), True)
            self.check(late_home, (1, 2), g, ("attack", (), 1), False)
            self.check(late_home, (1, 2), g, ("attack", [], 2), False)

    def test_legs_that_cannot_be_late(self):
        # The leg (2, 1) takes 1 at the longest: to make it late is let, but no help.
        town = TOWN[:2] + (9, 2)
        for late, expected in (((2,), True), ((1, 2), True), ((0, 1, 2), True), ((1,), False), ((0, 1), False)):
            self.check(town, (2, 1), 3, ("attack", late, 2), expected)

    def test_true_in_the_place_of_1(self):
        attack = ("attack", (0, 1), 1)
        for other in with_bools(attack):
            self.assertEqual(other, attack)
            self.assertEqual([sure_holds(TOWN, (1, 2), 2, thing) for thing in (other, attack, other)],
                             [False, True, False])

    def test_lists_and_sizes(self):
        for other in [*with_lists(("attack", (0, 1), 1)), *resized(("attack", (0, 1), 1))]:
            if other != ("attack", (0, 1), 1):
                self.check(TOWN, (1, 2), 3, other, False)

    def test_other_stops(self):
        for stop in (*ODD, "1", [1], (1,), 10 ** 39):
            expected = stop == 1 and stop is not True
            self.check(TOWN, (1, 2), 2, ("attack", (0, 1), stop), expected)


class OtherValues(unittest.TestCase):
    def test_odd_values(self):
        for tour, g in (((1, 2), 0), ((1, 2), 1), ((1, 2), 2), ((2, 1), 3)):
            for odd in (*ODD, TABLE, "sure", "attack", ("sure",), ("attack",), ("sure", TABLE, 1), TOWN):
                self.assertIs(sure_holds(TOWN, tour, g, odd), False)

    def test_odd_values_as_parts(self):
        for odd in ODD:
            for g in (1, 2):
                self.assertIs(sure_holds(TOWN, (1, 2), g, (odd, TABLE)), False)
                self.assertIs(sure_holds(TOWN, (1, 2), g, (odd, (0, 1), 1)), False)
                self.assertIs(sure_holds(TOWN, (1, 2), g, ("sure", odd)), False)
                self.assertIs(sure_holds(TOWN, (1, 2), g, ("sure", (odd, *TABLE[1:]))), False)
                self.assertIs(sure_holds(TOWN, (1, 2), g, ("attack", odd, 1)), False)

    def test_other_words(self):
        for word in ("Sure", "sure ", "", "attack", "none", "value", None, True, ("sure",), ["sure"]):
            self.assertIs(sure_holds(TOWN, (1, 2), 1, (word, TABLE)), False)
        for word in ("Attack", "sure", "", None, 1):
            self.assertIs(sure_holds(TOWN, (1, 2), 2, (word, (0, 1), 1)), False)

    def test_exactly_one_kind(self):
        for g, kind in ((0, "sure"), (1, "sure"), (2, "attack"), (3, "attack")):
            found = judge_sure(TOWN, (1, 2), g)
            self.assertEqual(found[0], kind)
            # The table of the worst begins is no certificate where there is an attack.
            self.assertIs(sure_holds(TOWN, (1, 2), g, ("sure", worst_begins(TOWN, (1, 2), g))), kind == "sure")
            self.assertIs(sure_holds(TOWN, (1, 2), g, ("attack", (0, 1), 1)), kind == "attack")


if __name__ == "__main__":
    unittest.main()
