import unittest

from latebyfew.towns import is_town
from samples import EMPTY, ODD, ONE, SIX, TOWN, TOWNS, changed, full_town, random_town, resized, with_bools, with_lists

PLACE = (0, 9, 1, 1, 0, 5)


def with_place(k, number):
    """A town of one place, with another number as the part k of the place."""
    return ((PLACE[:k] + (number,) + PLACE[k + 1:],), (), 3, 2)


def with_legs(*legs):
    return (TOWN[0], legs, 20, 2)


class Towns(unittest.TestCase):
    def test_the_example(self):
        self.assertEqual([is_town(TOWN), is_town(TOWN[:3])], [True, False])

    def test_towns(self):
        for town in TOWNS:
            self.assertIs(is_town(town), True)
        self.assertIs(is_town(((), (), 0, 0)), True)
        self.assertIs(is_town(((PLACE,) * 6, (), 3, 2)), True)
        for seed in range(100):
            self.assertIs(is_town(random_town(seed)), True)

    def test_towns_beyond_the_limits(self):
        self.assertIs(is_town(full_town(12)), True)
        huge = 10 ** 39
        self.assertIs(is_town((((huge, huge, huge, huge, huge, huge),), ((0, 1, huge, huge, huge),), huge, huge)), True)

    def test_other_values(self):
        for odd in ODD:
            self.assertIs(is_town(odd), False, odd)
        for odd in ODD:
            for town in (TOWN, EMPTY, ONE):
                self.assertIs(is_town(town + (odd,)), False)
                self.assertIs(is_town((town, odd)), False)

    def test_odd_values_as_parts(self):
        for odd in ODD:
            if odd == () and isinstance(odd, tuple):
                continue
            self.assertIs(is_town((odd, (), 3, 2)), False, odd)
            self.assertIs(is_town(((), odd, 3, 2)), False, odd)
            self.assertIs(is_town(((odd,), (), 3, 2)), False, odd)
            self.assertIs(is_town(((PLACE,), (odd,), 3, 2)), False, odd)
            if isinstance(odd, int) and not isinstance(odd, bool) and odd >= 0:
                continue
            for k in range(6):
                self.assertIs(is_town(with_place(k, odd)), False, odd)
            for k in range(5):
                leg = TOWN[1][0]
                self.assertIs(is_town(with_legs(leg[:k] + (odd,) + leg[k + 1:])), False, odd)
            self.assertIs(is_town(((), (), odd, 2)), False, odd)
            self.assertIs(is_town(((), (), 3, odd)), False, odd)

    def test_lists_for_tuples(self):
        for town in TOWNS:
            for other in with_lists(town):
                self.assertIs(is_town(other), False)

    def test_bools_for_integers(self):
        for town in TOWNS:
            for other in with_bools(town):
                self.assertEqual(other, town)
                self.assertIs(is_town(other), False)
                self.assertIs(is_town(town), True)

    def test_bools_in_either_order(self):
        for other in with_bools(ONE):
            self.assertEqual([is_town(other), is_town(ONE), is_town(other)], [False, True, False])
        first = (((0, 1, 0, 1, 0, 1),), ((0, 1, 0, 1, 1),), 1, 1)
        second = (((0, 1, 0, 1, 0, 1),), ((0, 1, 0, 1, True),), 1, 1)
        self.assertEqual(first, second)
        self.assertEqual([is_town(second), is_town(first)], [False, True])

    def test_strings_and_none_for_integers(self):
        for number in range(10):
            for new in (str(number), None, (number,), [number], {number: number}):
                for other in changed(TOWN, number, new):
                    self.assertIs(is_town(other), False)

    def test_parts_left_out_or_more(self):
        for town in (TOWN, ONE):
            for other in resized(town):
                # Only the number of places can change, if no leg goes beyond it.
                good = len(other) == 4 and other[1:] == town[1:] and len(other[0]) == len(town[0]) + 1
                self.assertIs(is_town(other), good or is_leg_left_out(town, other), other)

    def test_numbers_below_0(self):
        for number in range(21):
            for other in changed(TOWN, number, -1 - number):
                self.assertIs(is_town(other), False, other)

    def test_0_is_enough(self):
        self.assertIs(is_town((((0, 0, 0, 0, 0, 0),), ((0, 1, 0, 0, 0), (1, 0, 0, 0, 0)), 0, 0)), True)

    def test_windows(self):
        self.assertIs(is_town(with_place(0, 9)), True)
        self.assertIs(is_town(with_place(0, 10)), False)

    def test_usual_and_longest(self):
        self.assertIs(is_town(with_legs((0, 1, 4, 4, 3))), True)
        self.assertIs(is_town(with_legs((0, 1, 5, 4, 3))), False)

    def test_legs_out_of_order(self):
        legs = TOWN[1]
        for k in range(len(legs) - 1):
            other = legs[:k] + (legs[k + 1], legs[k]) + legs[k + 2:]
            self.assertIs(is_town(with_legs(*other)), False)
        self.assertIs(is_town(with_legs(*legs[::-1])), False)

    def test_legs_twice(self):
        for k, leg in enumerate(TOWN[1]):
            for second in (leg, leg[:4] + (leg[4] + 1,), leg[:2] + (9, 9, 9)):
                legs = TOWN[1][:k + 1] + (second,) + TOWN[1][k + 1:]
                self.assertIs(is_town(with_legs(*legs)), False)

    def test_ends_of_legs(self):
        self.assertIs(is_town(with_legs((0, 0, 2, 4, 3))), False)
        self.assertIs(is_town(with_legs((2, 2, 2, 4, 3))), False)
        self.assertIs(is_town(with_legs((0, 2, 2, 4, 3))), True)
        self.assertIs(is_town(with_legs((0, 3, 2, 4, 3))), False)
        self.assertIs(is_town(with_legs((3, 0, 2, 4, 3))), False)
        self.assertIs(is_town(((), ((0, 1, 2, 4, 3),), 20, 2)), False)

    def test_six_places(self):
        self.assertEqual(len(SIX[1]), 42)
        self.assertIs(is_town(SIX), True)
        self.assertIs(is_town((SIX[0][:5],) + SIX[1:]), False)


def is_leg_left_out(town, other):
    """Whether other is town without one of its legs."""
    if len(other) != 4 or (other[0], other[2:]) != (town[0], town[2:]):
        return False
    return other[1] in [town[1][:k] + town[1][k + 1:] for k in range(len(town[1]))]


if __name__ == "__main__":
    unittest.main()
