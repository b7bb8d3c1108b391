"""How much later the legs, the start and the stops of a sure round could be."""

import unittest
from itertools import combinations

from latebyfew.errors import BadBudget, BadNumber, BadRound, BadTown, NotSure
from latebyfew.rounds import rounds
from latebyfew.slack import floats, latest_start, leg_room
from latebyfew.sure import is_sure, worst_begins
from reference import bounds, driven
from samples import EMPTY, ODD, ONE, SIX, TOWN, random_town, with_bools, with_lists

FUNCTIONS = (leg_room, latest_start, floats)
# Late by up to 9 on the way out, which the opening at 12 swallows but for 1.
SWALLOW = (
    ((12, 14, 1, 0, 0, 0), (0, 99, 1, 0, 0, 0)),
    ((0, 1, 4, 13, 0), (1, 2, 1, 3, 0), (2, 0, 1, 4, 0)),
    40,
    0,
)


def holds_put_off(town, tour, g, start=0, stop=None, by=0):
    """Whether the round holds for g if it begins at start, and the begin at the stop is put off."""
    legs = driven(town, tour)
    for many in range(g + 1):
        for late in combinations(range(len(legs)), many):
            clock = start
            for at, (leg, limit) in enumerate(zip(legs, bounds(town, tour))):
                clock += leg[3] if at in late else leg[2]
                if at < len(tour):
                    clock = max(clock, town[0][tour[at] - 1][0])
                if at == stop:
                    clock += by
                if clock > limit:
                    return False
                if at < len(tour):
                    clock += town[0][tour[at] - 1][2]
    return True


def with_longest(town, ends, longest):
    """The same town with another longest time of one leg."""
    legs = tuple((*leg[:3], longest, leg[4]) if leg[:2] == ends else leg for leg in town[1])
    return (town[0], legs, *town[2:])


def sure_rounds_of(towns):
    for town in towns:
        for tour in rounds(town):
            for g in range(len(tour) + 3):
                if is_sure(town, tour, g):
                    yield town, tour, g


SMALL = [random_town(seed) for seed in range(60)]


class Slack(unittest.TestCase):
    def test_the_example(self):
        self.assertEqual(
            [leg_room(TOWN, (1, 2), 1, 0), leg_room(TOWN, (1, 2), 1, 1), leg_room(TOWN, (1, 2), 0, 1),
             latest_start(TOWN, (1, 2), 1), floats(TOWN, (1, 2), 1)], [5, 4, None, 1, (1, 1, 10)])

    def test_the_room_of_a_leg(self):
        many = 0
        for town, tour, g in sure_rounds_of(SMALL):
            for at, leg in enumerate(driven(town, tour)):
                room = leg_room(town, tour, g, at)
                if g == 0:
                    self.assertIsNone(room)
                    self.assertIs(is_sure(with_longest(town, leg[:2], 999), tour, g), True)
                    continue
                self.assertGreaterEqual(room, leg[3])
                self.assertIs(is_sure(with_longest(town, leg[:2], room), tour, g), True)
                self.assertIs(is_sure(with_longest(town, leg[:2], room + 1), tour, g), False)
                many += 1
        self.assertGreater(many, 500)

    def test_the_latest_start(self):
        for town, tour, g in sure_rounds_of(SMALL):
            latest = latest_start(town, tour, g)
            self.assertGreaterEqual(latest, 0)
            self.assertTrue(holds_put_off(town, tour, g, start=latest))
            self.assertFalse(holds_put_off(town, tour, g, start=latest + 1))

    def test_the_floats(self):
        for town, tour, g in sure_rounds_of(SMALL):
            found = floats(town, tour, g)
            self.assertIsInstance(found, tuple)
            self.assertEqual(len(found), len(tour) + 1)
            for stop, by in enumerate(found):
                self.assertTrue(holds_put_off(town, tour, g, stop=stop, by=by))
                self.assertFalse(holds_put_off(town, tour, g, stop=stop, by=by + 1))
            self.assertEqual(found[-1], town[2] - worst_begins(town, tour, g)[-1][g])

    def test_waiting_swallows(self):
        # The start can wait for the opening at 12, and so can the first leg.
        self.assertEqual(latest_start(SWALLOW, (1, 2), 0), 10)
        self.assertEqual(floats(SWALLOW, (1, 2), 0), (2, 24, 24))
        self.assertEqual([leg_room(SWALLOW, (1, 2), 1, at) for at in range(3)], [14, 25, 25])
        self.assertEqual(latest_start(SWALLOW, (1, 2), 1), 1)
        self.assertEqual(floats(SWALLOW, (1, 2), 1), (1, 21, 21))

    def test_no_slack_at_all(self):
        still = (((0, 0, 0, 0, 0, 0),), ((0, 1, 0, 0, 0), (1, 0, 0, 0, 0)), 0, 0)
        for g in range(4):
            self.assertEqual(latest_start(still, (1,), g), 0)
            self.assertEqual(floats(still, (1,), g), (0, 0))
            self.assertEqual([leg_room(still, (1,), g, at) for at in range(2)], [0, 0] if g else [None, None])

    def test_home_alone_bounds(self):
        town = (((0, 99, 2, 0, 0, 0),), ((0, 1, 3, 5, 0), (1, 0, 4, 9, 0)), 30, 0)
        self.assertEqual([leg_room(town, (1,), 1, 0), leg_room(town, (1,), 1, 1)], [24, 25])
        self.assertEqual([leg_room(town, (1,), 2, 0), leg_room(town, (1,), 2, 1)], [19, 23])
        self.assertEqual([latest_start(town, (1,), g) for g in range(4)], [21, 16, 14, 14])
        self.assertEqual([floats(town, (1,), g) for g in range(3)], [(21, 21), (16, 16), (14, 14)])

    def test_many_late_legs_and_six_places(self):
        for tour in ((1,), (6, 5), (1, 2), (2, 1)):
            for g in range(9):
                if is_sure(SIX, tour, g):
                    latest = latest_start(SIX, tour, g)
                    self.assertTrue(holds_put_off(SIX, tour, g, start=latest))
                    self.assertFalse(holds_put_off(SIX, tour, g, start=latest + 1))
        for g in range(3, 12):
            self.assertEqual(floats(TOWN, (2, 1), g), floats(TOWN, (2, 1), 3))
            self.assertEqual(latest_start(TOWN, (2, 1), g), latest_start(TOWN, (2, 1), 3))
            self.assertEqual([leg_room(TOWN, (2, 1), g, at) for at in range(3)],
                             [leg_room(TOWN, (2, 1), 3, at) for at in range(3)])

    def test_only_late_legs_need_room(self):
        # The leg takes no longer than usual; the room is what it could take at the longest.
        self.assertEqual(leg_room(TOWN, (2, 1), 3, 2), 13)
        self.assertEqual(leg_room(TOWN, (2, 1), 1, 1), 4)


class Errors(unittest.TestCase):
    def test_not_sure(self):
        for function in FUNCTIONS:
            for g in (2, 3, 9):
                with self.assertRaises(NotSure) as caught:
                    function(*[TOWN, (1, 2), g, 0][:4 if function is leg_room else 3])
                self.assertEqual(caught.exception.thing, (1, 2))
        late = (((0, 2, 0, 0, 0, 0),), ((0, 1, 3, 3, 0), (1, 0, 0, 0, 0)), 9, 0)
        for function in FUNCTIONS[1:]:
            with self.assertRaises(NotSure):
                function(late, (1,), 0)

    def test_bad_number(self):
        for odd in (*ODD, -1, 3, 4, True, False, 10 ** 39, "0", (0,), [1], 2.0):
            if type(odd) is int and 0 <= odd <= 2:
                continue
            for g in (0, 1):
                with self.assertRaises(BadNumber) as caught:
                    leg_room(TOWN, (1, 2), g, odd)
                self.assertIs(caught.exception.thing, odd)

    def test_not_sure_is_ahead_of_bad_number(self):
        for odd in (None, True, -1, 3, "0"):
            with self.assertRaises(NotSure):
                leg_room(TOWN, (1, 2), 2, odd)

    def test_bad_budget_is_ahead_of_not_sure(self):
        for odd in (None, True, False, -1, "1", (1,), [], {}):
            for given in ((leg_room, (odd, None)), (latest_start, (odd,)), (floats, (odd,))):
                with self.assertRaises(BadBudget) as caught:
                    given[0](TOWN, (1, 2), *given[1])
                self.assertIs(caught.exception.thing, odd)

    def test_bad_round_is_ahead_of_bad_budget(self):
        for odd in (*ODD, (1, 1), (3,), [1, 2], (True, 2), ()):
            for given in ((leg_room, (None, None)), (latest_start, (None,)), (floats, (True,))):
                with self.assertRaises(BadRound) as caught:
                    given[0](TOWN, odd, *given[1])
                self.assertIs(caught.exception.thing, odd)

    def test_bad_town_is_ahead_of_all(self):
        for odd in (*ODD, *with_lists(ONE), *with_bools(ONE), TOWN[:3]):
            for given in ((leg_room, (None, None, None)), (latest_start, (None, None)), (floats, ((1,), True))):
                with self.assertRaises(BadTown) as caught:
                    given[0](odd, *given[1])
                self.assertIs(caught.exception.thing, odd)

    def test_rounds_of_the_town_of_the_call(self):
        for town in (EMPTY, ONE):
            for function in FUNCTIONS[1:]:
                with self.assertRaises(BadRound):
                    function(town, (1, 2), 0)


if __name__ == "__main__":
    unittest.main()
