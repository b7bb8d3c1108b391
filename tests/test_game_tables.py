"""Driver's tables and foe's tables, and the certificates for the value of a beginning."""

import unittest
from random import Random

from latebyfew.errors import BadBudget, BadTown, BadWishes
from latebyfew.games import day_holds, driver_holds, foe_holds, judge_day
from reference_games import all_positions, all_wishes, answers_by_words, is_driver_by_words, is_foe_by_words
from reference_games import moves_by_words, results, value_by_tree
from samples import EMPTY, ODD, ONE, PAIR, TOWN, full_town, random_town, resized, roomy_town, with_bools, with_lists

TOWNS = (TOWN, PAIR, ONE, EMPTY, *[random_town(seed) for seed in range(16)],
         *[roomy_town(seed, 2 + seed % 2) for seed in range(10)])
FOUR = [roomy_town(seed, 4) for seed in range(4)] + [full_town(4)]
# Hardly two ways through this town are over at the same time.
SPREAD = (
    ((0, 99, 7, 0, 0, 7), (0, 99, 12, 0, 0, 9), (0, 99, 4, 0, 0, 8), (0, 90, 19, 0, 0, 5)),
    tuple((a, b, (3 * a + 5 * b) % 19, (3 * a + 5 * b) % 19 + 1 + (7 * a + 4 * b) % 18, a + b)
          for a in range(5) for b in range(5) if a != b),
    99,
    0,
)


def cases():
    for k, town in enumerate(TOWNS):
        for wishes in all_wishes(town)[-2:]:
            yield town, k % 3, wishes, judge_day(town, k % 3, wishes)


def with_row(table, at, row):
    return table[:at] + (row,) + table[at + 1:]


def rows_resized(table):
    """All tables with a part of one row or of its position left out or twice, but for the wishes."""
    for at, row in enumerate(table):
        for k in range(len(row)):
            yield with_row(table, at, row[:k] + row[k + 1:])
            yield with_row(table, at, row[:k + 1] + row[k:])
        for k in range(4):
            for position in (row[0][:k] + row[0][k + 1:], row[0][:k + 1] + row[0][k:]):
                yield with_row(table, at, (position, *row[1:]))


def full_driver_table(town, start):
    """A driver's table of all positions with a value that can come up."""
    rows = []
    for position in all_positions(town, start):
        value = value_by_tree(town, position)
        if value is None:
            continue
        for move in moves_by_words(town, position):
            found = [best(town, results(town, position, move, answer)) for answer in answers_by_words(position, move)]
            if all(pair is not None and pair[0] <= value for pair in found):
                rows.append((position, value, move, tuple(deed for _, deed in found) if move else ()))
                break
    return tuple(rows)


def best(town, found):
    """The least sum that can come of a move and its answer, and the deed; None if the day is lost."""
    sums = []
    for deed, (paid, after) in (found or {}).items():
        value = 0 if after is None else value_by_tree(town, after)
        if value is not None:
            sums.append((paid + value, deed))
    return min(sums, default=None)


def full_foe_table(town, start):
    """A foe's table of all positions that can come up."""
    rows = []
    for position in all_positions(town, start):
        answers = []
        for move in moves_by_words(town, position):
            sums = {answer: best(town, results(town, position, move, answer))
                    for answer in answers_by_words(position, move)}
            answers.append((move, max(sums, key=lambda one: 10 ** 9 if sums[one] is None else sums[one][0])))
        rows.append((position, value_by_tree(town, position), tuple(answers)))
    return tuple(rows)


class Judged(unittest.TestCase):
    def check(self, town, g, wishes):
        found = judge_day(town, g, wishes)
        self.assertEqual((type(found), len(found), found[0]), (tuple, 4, "value"))
        _, value, driver, foe = found
        start = (0, 0, g, wishes)
        self.assertEqual(value, value_by_tree(town, start))
        self.assertIs(day_holds(town, g, wishes, found), True)
        self.assertIs(driver_holds(town, driver), True)
        self.assertIs(foe_holds(town, foe), True)
        self.assertTrue(is_driver_by_words(town, driver))
        self.assertTrue(is_foe_by_words(town, foe))
        self.assertIn((start, value), [row[:2] for row in driver])
        self.assertIn((start, value), [row[:2] for row in foe])
        self.assertLessEqual(len(driver), 31)
        self.assertLessEqual(len(foe), 633)
        self.check_only_what_comes_up(town, start, driver, foe)

    def check_only_what_comes_up(self, town, start, driver, foe):
        """No row is there that does not come up from the beginning if its side follows the table."""
        rows = {row[0]: row for row in driver}
        met = set()
        waiting = [start]
        while waiting:
            position = waiting.pop()
            met.add(position)
            _, _, move, deeds = rows[position]
            for k, answer in enumerate(answers_by_words(position, move)):
                after = results(town, position, move, answer)[deeds[k] if move else ""][1]
                waiting += [after] if after is not None else []
        self.assertEqual(met, set(rows))
        rows = {row[0]: row for row in foe}
        met = set()
        waiting = [start]
        while waiting:
            position = waiting.pop()
            met.add(position)
            for move, answer in rows[position][2]:
                afters = [after for _, after in (results(town, position, move, answer) or {}).values()]
                waiting += [after for after in afters if after is not None]
        self.assertEqual(met, set(rows))

    def test_small_towns(self):
        for town in TOWNS:
            for wishes in all_wishes(town):
                for g in (0, 1, 2):
                    self.check(town, g, wishes)

    def test_four_places(self):
        for town in FOUR:
            for g in (0, 2, 4):
                self.check(town, g, (1, 2, 3, 4))

    def test_the_example(self):
        self.assertEqual(judge_day(PAIR, 1, (1, 2))[:2], ("value", 11))

    def test_no_wishes_and_no_places(self):
        for town in (PAIR, EMPTY):
            for g in (0, 1, 4):
                start = (0, 0, g, ())
                self.assertEqual(judge_day(town, g, ()),
                                 ("value", 0, ((start, 0, 0, ()),), ((start, 0, ((0, ""),)),)))
                self.assertIs(day_holds(town, g, (), judge_day(town, g, ())), True)


class Drivers(unittest.TestCase):
    def check(self, town, table):
        expected = is_driver_by_words(town, table)
        self.assertIs(driver_holds(town, table), expected, (town, table))
        return expected

    def test_no_rows(self):
        for town in TOWNS:
            self.assertIs(driver_holds(town, ()), True)

    def test_longer_tables(self):
        for town, g, wishes, found in cases():
            table = full_driver_table(town, (0, 0, g, wishes))
            self.assertGreaterEqual(len(table), len(found[2]))
            self.assertIs(self.check(town, table), True)
            self.assertIs(day_holds(town, g, wishes, (*found[:2], table, found[3])), True)

    def test_a_row_left_out(self):
        answers = [0, 0]
        for town, g, wishes, found in cases():
            for table in (found[2], full_driver_table(town, (0, 0, g, wishes))):
                for at in range(len(table)):
                    other = table[:at] + table[at + 1:]
                    answers[self.check(town, other)] += 1
                    self.assertIs(driver_holds(town, other), is_driver_by_words(town, other))
        self.assertGreater(min(answers), 50)

    def test_a_bound_changed(self):
        answers = [0, 0]
        for town, _, _, found in cases():
            for at, row in enumerate(found[2]):
                for bound in (row[1] - 1, row[1] + 1, 0, 1000, -1000):
                    other = with_row(found[2], at, (row[0], bound, *row[2:]))
                    answers[self.check(town, other)] += 1
                self.assertIs(driver_holds(town, with_row(found[2], at, (row[0], row[1] - 1, *row[2:]))), False)
                for bound in (None, True, "0", (row[1],), [row[1]]):
                    self.assertIs(driver_holds(town, with_row(found[2], at, (row[0], bound, *row[2:]))), False)
        self.assertGreater(min(answers), 50)

    def test_bounds_that_are_greater_all_the_way(self):
        for town, _, _, found in cases():
            table = tuple((row[0], row[1] + 3 * len(row[0][3]), *row[2:]) for row in found[2])
            self.assertIs(self.check(town, table), True)

    def test_another_move_or_other_deeds(self):
        answers = [0, 0]
        words = ("serve", "pass")
        for town, g, wishes, found in cases():
            table = full_driver_table(town, (0, 0, g, wishes))
            for at in range(0, len(table), 1 + len(table) // 4):
                row = table[at]
                for move in range(len(town[0]) + 1):
                    for deeds in ((), *[(one,) for one in words], *[(one, two) for one in words for two in words],
                                  ("serve",) * 3):
                        for bound in (row[1], row[1] + 30):
                            answers[self.check(town, with_row(table, at, (row[0], bound, move, deeds)))] += 1
        self.assertGreater(min(answers), 200)

    def test_rows_out_of_order_or_twice(self):
        for town, g, wishes, _ in cases():
            table = full_driver_table(town, (0, 0, g, wishes))
            for at in range(len(table)):
                self.assertIs(driver_holds(town, table[:at] + table[at:at + 1] + table[at:]), False)
            for at in range(len(table) - 1):
                self.assertIs(driver_holds(town, table[:at] + table[at:at + 2][::-1] + table[at + 2:]), False)
        row = ((0, 0, 0, ()), 0, 0, ())
        self.assertIs(driver_holds(PAIR, (row, ((0, 0, 0, ()), 1, 0, ()))), False)

    def test_serving_above_shut(self):
        places = ((0, 4, 0, 0, 0, 2),)
        town = (places, ((0, 1, 4, 5, 1), (1, 0, 0, 0, 1)), 9, 0)
        rest = (((1, 4, 1, ()), 1, 0, ()), ((1, 5, 0, ()), 1, 0, ()))
        for deeds, bound, expected in ((("serve", "pass"), 4, True), (("serve", "pass"), 3, False),
                                       (("pass", "pass"), 4, True), (("serve", "serve"), 99, False),
                                       (("pass", "serve"), 99, False), (("serve",), 99, False),
                                       (("serve", "pass", "pass"), 99, False), ((), 99, False),
                                       (["serve", "pass"], 99, False), (("serve", None), 99, False), ("serve", 99, False)):
            row = ((0, 0, 1, (1,)), bound, 1, deeds)
            self.assertIs(driver_holds(town, (row, *rest)), expected, (deeds, bound))

    def test_home_that_can_be_lost(self):
        for ready, budget, expected in ((17, 0, True), (18, 0, False), (16, 1, True), (17, 1, False)):
            self.assertIs(driver_holds(PAIR, (((1, ready, budget, (2,)), 10, 0, ()),)), expected)
            self.assertIs(driver_holds(PAIR, (((1, ready, budget, (2,)), 9, 0, ()),)), False)

    def test_other_values(self):
        table = judge_day(ONE, 1, (1,))[2]
        self.assertIs(driver_holds(ONE, table), True)
        for other in (*with_bools(table), *with_lists(table), *rows_resized(table)):
            self.assertIs(driver_holds(ONE, other), False, other)
        for odd in ODD:
            self.assertIs(driver_holds(ONE, odd), odd == () and isinstance(odd, tuple), odd)
            self.assertIs(driver_holds(ONE, (odd,)), False)
            self.assertIs(driver_holds(ONE, table + (odd,)), False)
            for at, row in enumerate(table):
                for k in range(4):
                    other = with_row(table, at, row[:k] + (odd,) + row[k + 1:])
                    right = repr(odd) == repr(row[k]) or k == 1 and type(odd) is int and is_driver_by_words(ONE, other)
                    self.assertIs(driver_holds(ONE, other), right, other)


class Foes(unittest.TestCase):
    def check(self, town, table):
        expected = is_foe_by_words(town, table)
        self.assertIs(foe_holds(town, table), expected, (town, table))
        return expected

    def test_no_rows(self):
        for town in TOWNS:
            self.assertIs(foe_holds(town, ()), True)

    def test_longer_tables(self):
        for town, g, wishes, found in cases():
            table = full_foe_table(town, (0, 0, g, wishes))
            self.assertGreaterEqual(len(table), len(found[3]))
            self.assertIs(self.check(town, table), True)
            self.assertIs(day_holds(town, g, wishes, (*found[:3], table)), True)

    def test_all_positions_of_four_places(self):
        start = (0, 0, 4, (1, 2, 3, 4))
        table = full_foe_table(SPREAD, start)
        self.assertGreater(len(table), 1500)
        self.assertIs(foe_holds(SPREAD, table), True)
        for at in (0, 1, 700, len(table) - 1):
            other = table[:at] + table[at + 1:]
            self.assertIs(foe_holds(SPREAD, other), is_foe_by_words(SPREAD, other))
        found = judge_day(SPREAD, 4, start[3])
        self.assertLessEqual(len(found[3]), 633)
        self.assertIs(day_holds(SPREAD, 4, start[3], (*found[:2], full_driver_table(SPREAD, start), table)), True)

    def test_a_row_left_out(self):
        answers = [0, 0]
        for town, g, wishes, found in cases():
            for table in (found[3], full_foe_table(town, (0, 0, g, wishes))[:40]):
                for at in range(0, len(table), 1 + len(table) // 12):
                    answers[self.check(town, table[:at] + table[at + 1:])] += 1
        self.assertGreater(min(answers), 20)

    def test_a_bound_changed(self):
        answers = [0, 0]
        draw = Random(2)
        for town, _, _, found in cases():
            table = found[3]
            for at in draw.sample(range(len(table)), min(12, len(table))):
                position, bound, moves = table[at]
                near = [] if bound is None else [bound - 1, bound + 1]
                for other in (*near, None, 0, 1000, -1000):
                    answers[self.check(town, with_row(table, at, (position, other, moves)))] += 1
                if bound is not None:
                    self.assertIs(foe_holds(town, with_row(table, at, (position, bound + 1, moves))), False)
                    self.assertIs(foe_holds(town, with_row(table, at, (position, None, moves))), False)
                for other in (True, False, "0", (0,), [0]):
                    self.assertIs(foe_holds(town, with_row(table, at, (position, other, moves))), False)
        self.assertGreater(min(answers), 100)

    def test_another_answer(self):
        answers = [0, 0]
        draw = Random(3)
        for town, _, _, found in cases():
            table = found[3]
            for at in draw.sample(range(len(table)), min(8, len(table))):
                position, bound, moves = table[at]
                for k, (move, _) in enumerate(moves):
                    for word in ("usual", "late", "", None, "serve", ("usual",)):
                        other = with_row(table, at, (position, bound, with_row(moves, k, (move, word))))
                        answers[self.check(town, other)] += 1
                for wrong in (moves[1:], moves[:-1], moves + moves[-1:], moves[::-1], ((9, "usual"),) + moves):
                    if wrong != moves:
                        self.assertIs(foe_holds(town, with_row(table, at, (position, bound, wrong))), False)
        self.assertGreater(min(answers), 100)

    def test_rows_out_of_order_or_twice(self):
        for town, g, wishes, found in cases():
            table = found[3]
            for at in range(0, len(table), 1 + len(table) // 8):
                self.assertIs(foe_holds(town, table[:at] + table[at:at + 1] + table[at:]), False)
            for at in range(0, len(table) - 1, 1 + len(table) // 8):
                self.assertIs(foe_holds(town, table[:at] + table[at:at + 2][::-1] + table[at + 2:]), False)

    def test_none_as_a_bound(self):
        lost = ((1, 18, 0, ()), None, ((0, "usual"),))
        late = ((1, 17, 1, ()), None, ((0, "late"),))
        saved = ((1, 17, 1, ()), None, ((0, "usual"),))
        for row, expected in ((lost, True), (late, True), (saved, False)):
            self.assertIs(foe_holds(PAIR, (row,)), expected)
            self.assertIs(foe_holds(PAIR, (row[:1] + (3,) + row[2:],)), True)
            self.assertIs(foe_holds(PAIR, (row[:1] + (4,) + row[2:],)), expected)
        town = (PAIR[0], PAIR[1][:2], 20, 2)
        for bound in (None, 0, 10 ** 39, -5):
            self.assertIs(foe_holds(town, (((1, 0, 0, (2,)), bound, ()),)), True)
        self.assertIs(foe_holds(town, (((1, 0, 0, (2,)), None, ((0, "usual"),)),)), False)
        # A bound is at most None where a position without value follows.
        rows = (((0, 0, 0, (1,)), 5, ((0, ""), (1, "usual"))), ((1, 3, 0, ()), None, ()), ((1, 5, 0, ()), None, ()))
        self.assertIs(foe_holds(town, rows), True)
        self.assertIs(foe_holds(town, (rows[0][:1] + (6,) + rows[0][2:], *rows[1:])), False)
        self.assertIs(foe_holds(town, (rows[0][:1] + (None,) + rows[0][2:], *rows[1:])), False)
        self.assertIs(foe_holds(town, rows[:2]), False)

    def test_other_values(self):
        table = judge_day(ONE, 1, (1,))[3]
        self.assertIs(foe_holds(ONE, table), True)
        for other in (*with_bools(table), *with_lists(table), *rows_resized(table)):
            self.assertIs(foe_holds(ONE, other), False, other)
        for odd in ODD:
            self.assertIs(foe_holds(ONE, odd), odd == () and isinstance(odd, tuple), odd)
            self.assertIs(foe_holds(ONE, (odd,)), False)
            self.assertIs(foe_holds(ONE, table + (odd,)), False)
            for at, row in enumerate(table):
                for k in range(3):
                    other = with_row(table, at, row[:k] + (odd,) + row[k + 1:])
                    right = repr(odd) == repr(row[k]) or k == 1 and (type(odd) is int or odd is None) and (
                        is_foe_by_words(ONE, other))
                    self.assertIs(foe_holds(ONE, other), right, other)


class Certificates(unittest.TestCase):
    def test_another_value(self):
        for town, g, wishes, found in cases():
            for value in (found[1] - 1, found[1] + 1, None, str(found[1]), (found[1],), found[1] == 0):
                self.assertIs(day_holds(town, g, wishes, ("value", value, *found[2:])), False)

    def test_bounds_that_do_not_meet(self):
        start = (0, 0, 1, (1, 2))
        _, value, driver, foe = judge_day(PAIR, 1, (1, 2))
        more = tuple((row[0], row[1] + (row[0] == start), *row[2:]) for row in driver)
        less = tuple((row[0], row[1] - 1 if row[0] == start else row[1], row[2]) for row in foe)
        self.assertTrue(driver_holds(PAIR, more) and foe_holds(PAIR, less))
        for c in (value - 1, value, value + 1):
            self.assertIs(day_holds(PAIR, 1, (1, 2), ("value", c, driver, foe)), c == value)
            self.assertIs(day_holds(PAIR, 1, (1, 2), ("value", c, more, foe)), False)
            self.assertIs(day_holds(PAIR, 1, (1, 2), ("value", c, driver, less)), False)
            self.assertIs(day_holds(PAIR, 1, (1, 2), ("value", c, more, less)), False)
            self.assertIs(day_holds(PAIR, 1, (1, 2), ("value", c, foe, driver)), False)

    def test_another_budget_or_other_wishes(self):
        found = judge_day(PAIR, 1, (1, 2))
        for g, wishes in ((0, (1, 2)), (2, (1, 2)), (1, (1,)), (1, (2,)), (1, ())):
            self.assertIs(day_holds(PAIR, g, wishes, found), False)

    def test_the_beginning_is_not_in_the_table(self):
        for town, g, wishes, found in cases():
            start = (0, 0, g, wishes)
            driver, foe = [tuple(row for row in table if row[0] != start) for table in found[2:]]
            self.assertIs(driver_holds(town, driver) and foe_holds(town, foe), True)
            self.assertIs(day_holds(town, g, wishes, (*found[:2], driver, found[3])), False)
            self.assertIs(day_holds(town, g, wishes, (*found[:3], foe)), False)
            self.assertIs(day_holds(town, g, wishes, (*found[:2], (), ())), False)

    def test_bools_lists_and_sizes(self):
        free = (((0, 0, 0, 0, 0, 1),), (), 0, 0)
        found = judge_day(free, 0, (1,))
        self.assertEqual(found, ("value", 1, (((0, 0, 0, (1,)), 1, 0, ()),), (((0, 0, 0, (1,)), 1, ((0, ""),)),)))
        self.assertIs(day_holds(free, 0, (1,), found), True)
        for other in (*with_bools(found), *with_lists(found), *resized(found)):
            self.assertIs(day_holds(free, 0, (1,), other), False, other)

    def test_odd_values(self):
        found = judge_day(PAIR, 1, (1, 2))
        for odd in (*ODD, found[1:], found[:3], found + (1,), [*found], "value", ("value",), found[2], found[3]):
            self.assertIs(day_holds(PAIR, 1, (1, 2), odd), False)
            for k in range(4):
                other = found[:k] + (odd,) + found[k + 1:]
                self.assertIs(day_holds(PAIR, 1, (1, 2), other), repr(other) == repr(found))
        for word in ("Value", "", "none", None, ("value",), 1):
            self.assertIs(day_holds(PAIR, 1, (1, 2), (word, *found[1:])), False)


class Errors(unittest.TestCase):
    def test_bad_town(self):
        for odd in (*ODD, TOWN[:3], *with_bools(ONE)):
            for function, rest in ((judge_day, (None, None)), (day_holds, (None,) * 3), (driver_holds, (None,)),
                                   (foe_holds, (None,))):
                with self.assertRaises(BadTown) as caught:
                    function(odd, *rest)
                self.assertIs(caught.exception.thing, odd)

    def test_bad_budget(self):
        for odd in (None, True, False, -1, "1", (1,), [1], {}, ODD[-1], ODD[-5]):
            for function, rest in ((judge_day, (None,)), (day_holds, (None, None))):
                with self.assertRaises(BadBudget) as caught:
                    function(PAIR, odd, *rest)
                self.assertIs(caught.exception.thing, odd)

    def test_bad_wishes(self):
        for odd in (*ODD, (2, 1), (1, 1), (0,), (3,), (True,), (1, True), [1], "1", 1, {1: 1}, (1, None), ((1,),)):
            if odd == () and isinstance(odd, tuple):
                continue
            for function, rest in ((judge_day, ()), (day_holds, (None,))):
                with self.assertRaises(BadWishes) as caught:
                    function(PAIR, 1, odd, *rest)
                self.assertIs(caught.exception.thing, odd)


if __name__ == "__main__":
    unittest.main()
