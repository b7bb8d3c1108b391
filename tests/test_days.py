import unittest
from itertools import product
from random import Random

from latebyfew.errors import BadDay
from latebyfew.rounds import begins, broken, is_day, late_legs, rounds
from samples import ODD, SIX, TOWN, random_town, with_bools, with_lists

# One place that is open from 4 to 7, and home by 12.
WAIT = (((4, 7, 2, 0, 0, 0),), ((0, 1, 1, 9, 0), (1, 0, 3, 6, 0)), 12, 0)


def driven(town, tour):
    """The legs of a round, by the town's rows."""
    rows = {leg[:2]: leg for leg in town[1]}
    return [rows[ends] for ends in zip((0, *tour), (*tour, 0))]


def some_days(town, tour, draw):
    """The quickest and the slowest day of a round, and some between."""
    legs = driven(town, tour)
    days = [tuple(leg[2] for leg in legs), tuple(leg[3] for leg in legs)]
    return days + [tuple(draw.randint(leg[2], leg[3]) for leg in legs) for _ in range(3)]


def begin_by_definition(town, tour, day, stop):
    """The begin at a stop, from the begin at the stop before."""
    if stop == 0:
        arrival = day[0]
    else:
        arrival = begin_by_definition(town, tour, day, stop - 1) + town[0][tour[stop - 1] - 1][2] + day[stop]
    return arrival if stop == len(tour) else max(arrival, town[0][tour[stop] - 1][0])


class Days(unittest.TestCase):
    def test_the_example(self):
        self.assertEqual(
            [is_day(TOWN, (1, 2), (2, 1, 6)), begins(TOWN, (1, 2), (2, 1, 3)), begins(TOWN, (1, 2), (4, 3, 3)),
             broken(TOWN, (1, 2), (4, 3, 3)), late_legs(TOWN, (1, 2), (4, 3, 3))],
            [False, (2, 4, 8), (4, 8, 12), (1,), (0, 1)])

    def test_is_day(self):
        for day in product(range(1, 6), range(0, 5), range(2, 7)):
            good = 2 <= day[0] <= 4 and 1 <= day[1] <= 3 and 3 <= day[2] <= 5
            self.assertIs(is_day(TOWN, (1, 2), day), good)

    def test_no_days(self):
        for odd in (*ODD, (2, 1), (2, 1, 3, 3), [2, 1, 3], (2, 1, None), (2, 1, "3"), (2, 1, [3]), (2, True, 3),
                    "213", {2: 1}, ((2, 1, 3),), (2, (1,), 3), (-2, 1, 3), (2, 1, 10 ** 39)):
            self.assertIs(is_day(TOWN, (1, 2), odd), False, odd)
            for function in (begins, broken, late_legs):
                with self.assertRaises(BadDay) as caught:
                    function(TOWN, (1, 2), odd)
                self.assertIs(caught.exception.thing, odd)

    def test_just_beyond_the_leg(self):
        for day in ((1, 1, 3), (5, 1, 3), (2, 0, 3), (2, 4, 3), (2, 1, 2), (2, 1, 6)):
            for function in (begins, broken, late_legs):
                with self.assertRaises(BadDay) as caught:
                    function(TOWN, (1, 2), day)
                self.assertEqual(caught.exception.thing, day)

    def test_lists_and_bools(self):
        day = (2, 1, 3)
        for other in [*with_lists(day), *with_bools(day)]:
            self.assertEqual([is_day(TOWN, (1, 2), other), is_day(TOWN, (1, 2), day)], [False, True])
        bare = (((0, 1, 0, 0, 0, 0),), ((0, 1, 0, 1, 0), (1, 0, 0, 1, 0)), 2, 0)
        self.assertEqual([is_day(bare, (1,), (False, 1)), is_day(bare, (1,), (0, 1)), is_day(bare, (1,), (0, True))],
                         [False, True, False])

    def test_waiting(self):
        self.assertEqual(begins(WAIT, (1,), (1, 3)), (4, 9))
        self.assertEqual(begins(WAIT, (1,), (3, 3)), (4, 9))
        self.assertEqual(begins(WAIT, (1,), (4, 3)), (4, 9))
        self.assertEqual(begins(WAIT, (1,), (5, 3)), (5, 10))

    def test_windows(self):
        self.assertEqual(broken(WAIT, (1,), (1, 3)), ())
        self.assertEqual(broken(WAIT, (1,), (7, 3)), ())
        self.assertEqual(broken(WAIT, (1,), (8, 3)), (0, 1))
        # What breaks a window goes on from there nevertheless.
        self.assertEqual(begins(WAIT, (1,), (8, 3)), (8, 13))

    def test_home(self):
        self.assertEqual(broken(WAIT, (1,), (4, 6)), ())
        self.assertEqual(broken(WAIT, (1,), (5, 6)), (1,))
        self.assertEqual(begins(WAIT, (1,), (5, 6)), (5, 13))
        self.assertEqual(broken(WAIT[:2] + (13, 0), (1,), (5, 6)), ())

    def test_late_legs(self):
        self.assertEqual(late_legs(WAIT, (1,), (1, 3)), ())
        self.assertEqual(late_legs(WAIT, (1,), (2, 3)), (0,))
        self.assertEqual(late_legs(WAIT, (1,), (1, 4)), (1,))
        self.assertEqual(late_legs(WAIT, (1,), (9, 6)), (0, 1))
        self.assertEqual(late_legs(TOWN, (2, 1), (3, 1, 3)), (2,))

    def test_by_definition(self):
        draw = Random(3)
        many = 0
        for seed in range(150):
            town = random_town(seed)
            for tour in rounds(town):
                for day in some_days(town, tour, draw):
                    self.check_day(town, tour, day)
                    many += len(broken(town, tour, day))
        self.assertGreater(many, 100)

    def check_day(self, town, tour, day):
        self.assertIs(is_day(town, tour, day), True)
        stops = range(len(tour) + 1)
        found = tuple(begin_by_definition(town, tour, day, stop) for stop in stops)
        bounds = [town[0][p - 1][1] for p in tour] + [town[2]]
        usual = [leg[2] for leg in driven(town, tour)]
        self.assertEqual(begins(town, tour, day), found)
        self.assertEqual(broken(town, tour, day), tuple(k for k in stops if found[k] > bounds[k]))
        self.assertEqual(late_legs(town, tour, day), tuple(k for k in stops if day[k] > usual[k]))

    def test_six_places(self):
        tour = (6, 1, 5, 2, 4, 3)
        self.check_day(SIX, tour, tuple(leg[2] for leg in driven(SIX, tour)))
        self.check_day(SIX, tour, tuple(leg[3] for leg in driven(SIX, tour)))


if __name__ == "__main__":
    unittest.main()
