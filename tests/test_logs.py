"""Logs of days that are driven, advice and luck."""

import unittest
from itertools import product

from latebyfew.days import advice, advised_deed, follow, luck
from latebyfew.errors import BadAnswer, BadBudget, BadLine, BadMove, BadPosition, BadTown, BadWishes
from latebyfew.games import driver_holds, judge_day, moves_of, value_of
from reference_games import all_positions, all_wishes, answers_by_words, moves_by_words, results, value_by_tree
from samples import EMPTY, ODD, ONE, PAIR, TOWN, random_town, roomy_town, with_bools, with_lists

TOWNS = (TOWN, PAIR, ONE, EMPTY, *[random_town(seed) for seed in range(16)],
         *[roomy_town(seed, 2 + seed % 3) for seed in range(12)])
LOG = (("go", 2, "late", "serve"), ("go", 1, "usual", "serve"), ("home", "usual"))


def all_steps(town, position):
    """All lines that are possible at a position, each with what it makes due and the position that follows."""
    for move in moves_by_words(town, position):
        for answer in answers_by_words(position, move):
            found = results(town, position, move, answer)
            if found is None:
                yield ("home", answer), None, None
            for deed, (paid, after) in (found or {}).items():
                yield (("go", move, answer, deed) if move else ("home", answer)), paid, after


def all_logs(town, start):
    """All logs from a position, each with the position behind it and what is paid."""
    waiting = [((), start, 0)]
    while waiting:
        log, position, paid = waiting.pop()
        yield log, position, paid
        if position is not None:
            for line, due, after in all_steps(town, position):
                waiting.append((log + (line,), after, None if due is None else paid + due))


class Logs(unittest.TestCase):
    def test_the_example(self):
        self.assertEqual(
            [advice(PAIR, (0, 0, 1, (1, 2))), follow(PAIR, 1, (1, 2), LOG[:1]), follow(PAIR, 1, (1, 2), LOG),
             luck(PAIR, 1, (1, 2), LOG), luck(PAIR, 1, (1, 2), (("home", ""),)),
             advised_deed(PAIR, (2, 6, 1, (1,)), 1, "late")],
            [(2, 11), ((2, 6, 0, (1,)), 4), (None, 11), 0, -1, "serve"])

    def test_all_logs_line_by_line(self):
        ends = set()
        for town in TOWNS[:20]:
            for g in (0, 1):
                wishes = all_wishes(town)[-1]
                if len(wishes) > 3:
                    continue
                for log, position, paid in all_logs(town, (0, 0, g, wishes)):
                    self.assertEqual(follow(town, g, wishes, log), (position, paid))
                    ends.add((len(log), position is None, paid is None))
        self.assertLessEqual({(2, True, False), (2, True, True), (2, False, False), (3, True, True)}, ends)

    def test_nothing_is_driven(self):
        self.assertEqual(follow(PAIR, 3, (1, 2), ()), ((0, 0, 3, (1, 2)), 0))
        self.assertEqual(follow(PAIR, 3, (1, 2), (("home", ""),)), (None, 12))
        self.assertEqual(follow(EMPTY, 0, (), (("home", ""),)), (None, 0))

    def test_what_is_passed_and_what_is_left(self):
        self.assertEqual(follow(PAIR, 1, (1, 2), (("go", 1, "late", "pass"),)), ((1, 5, 0, (2,)), 3 + 5))
        self.assertEqual(follow(PAIR, 1, (1, 2), (("go", 1, "late", "pass"), ("home", "usual"))), (None, 8 + 3 + 7))
        self.assertEqual(follow(PAIR, 1, (1, 2), (("go", 1, "usual", "serve"),)), ((1, 5, 1, (2,)), 3))
        self.assertEqual(follow(PAIR, 1, (1,), (("go", 1, "usual", "serve"), ("home", "late"))), (None, 6))

    def test_a_lost_day(self):
        short = (PAIR[0], PAIR[1], 8, 2)
        out = ("go", 1, "usual", "serve")
        self.assertEqual(follow(short, 1, (1, 2), (out, ("home", "usual"))), (None, 13))
        self.assertEqual(follow(short, 1, (1, 2), (out, ("home", "late"))), (None, None))
        for line in (("home", ""), ("home", "usual"), out, (), None):
            for home in ("usual", "late"):
                self.check_bad(short, 1, (1, 2), (out, ("home", home), line), 2)

    def check_bad(self, town, g, wishes, log, k):
        for function in (follow, luck):
            with self.assertRaises(BadLine) as caught:
                function(town, g, wishes, log)
            self.assertEqual((caught.exception.k, type(caught.exception.k)), (k, int))

    def test_lines_that_are_not_possible(self):
        for k in range(3):
            for line in (("go", 1, "late", "serve"), ("go", 2, "usual", "serve"), ("home", ""), ("home", "late"),
                         ("go", 0, "usual", "serve"), ("go", 0, "", ""), ("go", 3, "usual", "serve")):
                if k > 0 or line[1:] not in ((2, "usual", "serve"), (1, "late", "serve"), ("",)):
                    self.check_bad(PAIR, 1, (1, 2), LOG[:k] + (line,), k)

    def test_a_line_behind_a_home(self):
        for line in (*LOG, ("home", ""), None, 0, [], {}):
            self.check_bad(PAIR, 1, (1, 2), LOG + (line,), 3)
            self.check_bad(PAIR, 1, (1, 2), (("home", ""), line), 1)
            self.check_bad(PAIR, 1, (1, 2), LOG + (line, line), 3)

    def test_the_first_of_several(self):
        self.check_bad(PAIR, 1, (1, 2), (None, None), 0)
        self.check_bad(PAIR, 1, (1, 2), (LOG[0], None, ("home", "")), 1)
        self.check_bad(PAIR, 1, (1, 2), (LOG[0], LOG[0], None), 1)

    def test_late_without_budget(self):
        self.check_bad(PAIR, 0, (1, 2), LOG[:1], 0)
        self.check_bad(PAIR, 1, (1, 2), (LOG[0], ("go", 1, "late", "serve")), 1)
        self.assertEqual(follow(PAIR, 2, (1, 2), (LOG[0], ("go", 1, "late", "serve")))[0], (1, 11, 0, ()))

    def test_serve_above_shut(self):
        for shut, is_possible in ((5, True), (4, False)):
            town = (((0, shut, 2, 1, 0, 5), PAIR[0][1]), *PAIR[1:])
            log = (("go", 1, "late", "serve"),)
            if is_possible:
                self.assertEqual(follow(town, 1, (1,), log), ((1, 7, 0, ()), 3))
            else:
                self.check_bad(town, 1, (1,), log, 0)
            self.assertEqual(follow(town, 1, (1,), (("go", 1, "late", "pass"),)), ((1, 5, 0, ()), 8))

    def test_no_log_at_all(self):
        for odd in ODD:
            if isinstance(odd, tuple):
                continue
            self.check_bad(PAIR, 1, (1, 2), odd, -1)
        for odd in ([*LOG], "go", LOG[0][0], {0: LOG[0]}):
            self.check_bad(PAIR, 1, (1, 2), odd, -1)

    def test_lines_that_are_no_lines(self):
        for odd in (*ODD, "home", ("home",), ("home", "", ""), ("go", 2, "late"), ("go", 2, "late", "serve", 0),
                    ("stay", ""), ("Home", ""), (None, ""), ["home", ""], ["go", 2, "late", "serve"], ("go", 2)):
            self.check_bad(PAIR, 1, (1, 2), (odd,), 0)
            self.check_bad(PAIR, 1, (1, 2), LOG[:2] + (odd,), 2)
            for k in range(4):
                line = LOG[0][:k] + (odd,) + LOG[0][k + 1:]
                if repr(line) not in [repr(("go", 1, "late", "serve")), repr(LOG[0])]:
                    self.check_bad(PAIR, 1, (1, 2), (line,), 0)
            self.check_bad(PAIR, 1, (1, 2), LOG[:2] + (("home", odd),), 2)
            if odd != "":
                self.check_bad(PAIR, 1, (1, 2), (("home", odd),), 0)
            for line in (("go", True, "usual", "serve"), ("go", "1", "usual", "serve"), ("go", 1, "usual", True)):
                self.check_bad(PAIR, 1, (1, 2), (line,), 0)

    def test_lists_in_the_place_of_tuples(self):
        for other in with_lists(LOG):
            k = -1 if isinstance(other, list) else [isinstance(line, list) for line in other].index(True)
            self.check_bad(PAIR, 1, (1, 2), other, k)


class Advice(unittest.TestCase):
    def test_best_moves(self):
        answers = [0, 0]
        for town in TOWNS:
            for wishes in all_wishes(town)[-3:]:
                for position in all_positions(town, (0, 0, 2, wishes))[::5]:
                    found = advice(town, position)
                    value = value_by_tree(town, position)
                    answers[value is None] += 1
                    if value is None:
                        self.assertIsNone(found)
                        continue
                    self.assertEqual((type(found), len(found), found[1]), (tuple, 2, value))
                    self.assertTrue(self.is_best(town, position, found[0], value))
        self.assertGreater(min(answers), 50)

    def is_best(self, town, position, move, value):
        """Whether the driver can see to it by the move that at most the value is paid."""
        for answer in answers_by_words(position, move):
            sums = [paid + (0 if after is None else value_by_tree(town, after)) for paid, after in
                    (results(town, position, move, answer) or {}).values()
                    if after is None or value_by_tree(town, after) is not None]
            if min(sums, default=value + 1) > value:
                return False
        return move in moves_by_words(town, position)

    def test_advised_deeds(self):
        deeds = set()
        for town in TOWNS:
            for position in all_positions(town, (0, 0, 2, all_wishes(town)[-1]))[::7]:
                for move in moves_by_words(town, position):
                    if move == 0:
                        continue
                    for answer in answers_by_words(position, move):
                        found = advised_deed(town, position, move, answer)
                        sums = {}
                        for deed, (paid, after) in results(town, position, move, answer).items():
                            value = value_by_tree(town, after)
                            sums[deed] = 10 ** 9 if value is None else paid + value
                        self.assertEqual(sums[found], min(sums.values()))
                        deeds.add((found, len(sums), min(sums.values()) < max(sums.values())))
        self.assertLessEqual({("serve", 2, True), ("pass", 1, False), ("pass", 2, True)}, deeds)

    def test_followed_against_every_foe(self):
        for town in TOWNS:
            for wishes in all_wishes(town)[-2:]:
                for g in (0, 1, 2):
                    self.drive(town, (0, 0, g, wishes), 0, value_of(town, (0, 0, g, wishes)), ())

    def drive(self, town, position, paid, value, log):
        """Follow advice and advised deeds against each answer; the log is never unlucky."""
        g = position[2] + sum("late" in line for line in log)
        move, rest = advice(town, position)
        self.assertLessEqual(paid + rest, value)
        for answer in answers_by_words(position, move):
            deed = advised_deed(town, position, move, answer) if move else ""
            due, after = results(town, position, move, answer)[deed]
            driven = log + (("go", move, answer, deed) if move else ("home", answer),)
            wishes = tuple(sorted({*position[3], *[line[1] for line in driven if line[0] == "go"]}))
            self.assertGreaterEqual(luck(town, g, wishes, driven), 0)
            if after is None:
                self.assertLessEqual(paid + due, value)
            else:
                self.drive(town, after, paid + due, value, driven)

    def test_rows_of_drivers_tables(self):
        for town in TOWNS[:12]:
            start = (0, 0, 1, all_wishes(town)[-1])
            move, value = advice(town, start)
            rows = {row[0]: row for row in judge_day(town, 1, start[3])[2]}
            self.assertEqual(rows[start][1], value)
            deeds = tuple(advised_deed(town, start, move, answer) for answer in answers_by_words(start, move) if move)
            for answer, deed in zip(answers_by_words(start, move), deeds):
                after = results(town, start, move, answer)[deed][1]
                rows.update({row[0]: row for row in self.rows_from(town, after)})
            rows[start] = (start, value, move, deeds)
            self.assertIs(driver_holds(town, tuple(rows[position] for position in sorted(rows))), True)

    def rows_from(self, town, position):
        """Rows for a position and all that come up by advice."""
        move, value = advice(town, position)
        answers = answers_by_words(position, move)
        deeds = tuple(advised_deed(town, position, move, answer) for answer in answers if move)
        yield position, value, move, deeds
        for answer, deed in zip(answers, deeds):
            yield from self.rows_from(town, results(town, position, move, answer)[deed][1])


class Luck(unittest.TestCase):
    def test_over_all_logs(self):
        kinds = set()
        for town in TOWNS[:20]:
            for g in (0, 1):
                wishes = all_wishes(town)[-1]
                if len(wishes) > 3:
                    continue
                start = (0, 0, g, wishes)
                for log, position, paid in all_logs(town, start):
                    rest = 0 if position is None else value_by_tree(town, position)
                    expected = None if paid is None or rest is None else value_by_tree(town, start) - paid - rest
                    found = luck(town, g, wishes, log)
                    self.assertEqual(found, expected)
                    kinds.add((found is None, paid is None) if found is None else (found > 0) - (found < 0))
        self.assertEqual(kinds, {(True, True), (True, False), -1, 0, 1})

    def test_before_anything_is_driven(self):
        for town in TOWNS:
            self.assertEqual(luck(town, 1, all_wishes(town)[-1], ()), 0)

    def test_above_and_below_0(self):
        self.assertEqual(luck(PAIR, 1, (1, 2), (("go", 1, "usual", "serve"), ("go", 2, "usual", "serve"))), 2)
        self.assertEqual(luck(PAIR, 1, (1, 2), (("home", ""),)), -1)
        self.assertEqual(luck(PAIR, 1, (1, 2), LOG[:1]), 0)


class Errors(unittest.TestCase):
    def test_bad_town(self):
        calls = ((follow, (None,) * 3), (luck, (None,) * 3), (advice, (None,)), (advised_deed, (None,) * 3))
        for odd in (*ODD, TOWN[:3], *with_bools(ONE)):
            for function, rest in calls:
                with self.assertRaises(BadTown) as caught:
                    function(odd, *rest)
                self.assertIs(caught.exception.thing, odd)

    def test_bad_budget_and_wishes(self):
        for function in (follow, luck):
            for odd in (None, True, False, -1, "1", (1,), [1], {}, ODD[-1], ODD[-5]):
                for wishes in ((1, 2), None):
                    with self.assertRaises(BadBudget) as caught:
                        function(PAIR, odd, wishes, None)
                    self.assertIs(caught.exception.thing, odd)
            for odd in (*[one for one in ODD if one != () or isinstance(one, list)], (2, 1), (1, 1), (0,), (3,), (True,)):
                for log in (None, (), LOG):
                    with self.assertRaises(BadWishes) as caught:
                        function(PAIR, 1, odd, log)
                    self.assertIs(caught.exception.thing, odd)

    def test_bad_position(self):
        for odd in (*ODD, (3, 0, 0, ()), (1, 0, 0, (1,)), [0, 0, 0, ()], (0, True, 0, ())):
            for call in (lambda: advice(PAIR, odd), lambda: advised_deed(PAIR, odd, None, None)):
                with self.assertRaises(BadPosition) as caught:
                    call()
                self.assertIs(caught.exception.thing, odd)

    def test_bad_move(self):
        position = (0, 0, 1, (1, 2))
        for odd in (*ODD, 0, 3, -1, "1", (1,), [1], True, False):
            if type(odd) is int and odd == 1:
                continue
            for answer in ("usual", "late", "", None):
                with self.assertRaises(BadMove) as caught:
                    advised_deed(PAIR, position, odd, answer)
                self.assertIs(caught.exception.thing, odd)
        for place in ((1, 3, 1, ()), (1, 3, 1, (2,))):
            self.assertIn(0, moves_of(PAIR, place))
            with self.assertRaises(BadMove) as caught:
                advised_deed(PAIR, place, 0, "usual")
            self.assertIs(caught.exception.thing, 0)

    def test_bad_answer(self):
        for budget, odds in ((1, (*ODD, "Late", "usual ", ("usual",), ["late"], 1, True)), (0, ("late", "", None))):
            for odd in odds:
                with self.assertRaises(BadAnswer) as caught:
                    advised_deed(PAIR, (0, 0, budget, (1, 2)), 1, odd)
                self.assertIs(caught.exception.thing, odd)

    def test_every_answer_that_is_possible(self):
        for budget, answer in product((1, 2), ("usual", "late")):
            self.assertIn(advised_deed(PAIR, (0, 0, budget, (1, 2)), 1, answer), ("serve", "pass"))
        self.assertEqual(advised_deed(PAIR, (0, 0, 0, (1, 2)), 1, "usual"), "serve")


if __name__ == "__main__":
    unittest.main()
