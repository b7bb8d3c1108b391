import unittest
from itertools import permutations

from latebyfew.errors import BadRound
from latebyfew.rounds import begins, broken, cost, is_day, is_round, late_legs, loads, rounds
from samples import EMPTY, ODD, ONE, SIX, TOWN, full_town, random_town, with_bools, with_lists

RANDOM_TOWNS = tuple(random_town(seed) for seed in range(120))


def loads_by_definition(town, tour):
    """The load before any place is served, and after each one."""
    found = []
    for k in range(len(tour) + 1):
        fetched = sum(town[0][p - 1][4] for p in tour[:k])
        found.append(fetched + sum(town[0][p - 1][3] for p in tour[k:]))
    return tuple(found)


def rounds_by_definition(town):
    """All rounds, from all rows of different places."""
    places = range(1, len(town[0]) + 1)
    listed = {leg[:2] for leg in town[1]}
    rows = [row for k in range(1, len(places) + 1) for row in permutations(places, k)]
    return tuple(sorted(
        row for row in rows
        if all(ends in listed for ends in zip((0, *row), (*row, 0)))
        and all(load <= town[3] for load in loads_by_definition(town, row))))


class Rounds(unittest.TestCase):
    def test_the_example(self):
        self.assertEqual(
            [rounds(TOWN), is_round(TOWN, (1, 1)), cost(TOWN, (1, 2)), loads(TOWN, (1, 2))],
            [((1,), (1, 2), (2,), (2, 1)), False, 8, (2, 1, 0)])

    def test_no_rounds(self):
        self.assertEqual(rounds(EMPTY), ())
        self.assertEqual(rounds((TOWN[0], (), 20, 2)), ())
        # Out but not home, home but not out.
        self.assertEqual(rounds((TOWN[0], ((0, 1, 1, 1, 1), (1, 2, 1, 1, 1), (2, 1, 1, 1, 1)), 20, 2)), ())
        self.assertEqual(rounds((TOWN[0], ((1, 0, 1, 1, 1), (1, 2, 1, 1, 1), (2, 1, 1, 1, 1)), 20, 2)), ())

    def test_a_way_round(self):
        legs = ((0, 1, 1, 1, 1), (1, 2, 1, 1, 1), (2, 0, 1, 1, 1))
        self.assertEqual(rounds((TOWN[0], legs, 20, 2)), ((1, 2),))

    def test_fewer_legs_than_places(self):
        town = ((TOWN[0][0],) * 4, ((0, 4, 1, 1, 1), (4, 0, 1, 1, 1)), 20, 2)
        self.assertEqual(rounds(town), ((4,),))
        self.assertEqual([is_round(town, (place,)) for place in range(6)], [False] * 4 + [True, False])

    def test_all_rounds(self):
        many = 0
        for town in RANDOM_TOWNS:
            self.assertEqual(rounds(town), rounds_by_definition(town))
            many += len(rounds(town))
        self.assertGreater(many, 200)

    def test_six_places(self):
        found = rounds(SIX)
        self.assertEqual(len(found), 1956)
        self.assertEqual(found, tuple(sorted(set(found))))
        self.assertEqual(found, rounds_by_definition(SIX))

    def test_times_do_not_matter(self):
        late = (((0, 0, 99, 1, 0, 5),), ((0, 1, 99, 99, 3), (1, 0, 99, 99, 3)), 0, 1)
        self.assertEqual(rounds(late), ((1,),))

    def test_room(self):
        places = ((0, 9, 1, 3, 0, 5), (0, 9, 1, 1, 4, 5))
        for room, expected in ((5, ((1,), (1, 2), (2,))), (4, ((1,), (1, 2), (2,))), (3, ((1,),)), (2, ())):
            self.assertEqual(rounds((places, TOWN[1], 20, room)), expected)
        # First 2 brings it to 3 + 4 after the first place.
        self.assertEqual(loads((places, TOWN[1], 20, 7), (2, 1)), (4, 7, 4))
        self.assertIs(is_round((places, TOWN[1], 20, 7), (2, 1)), True)
        self.assertIs(is_round((places, TOWN[1], 20, 6), (2, 1)), False)

    def test_room_that_just_fits(self):
        for town in RANDOM_TOWNS:
            wide = town[:3] + (99,)
            for tour in rounds(wide):
                most = max(loads_by_definition(town, tour))
                self.assertIs(is_round(town[:3] + (most,), tour), True)
                self.assertIn(tour, rounds(town[:3] + (most,)))
                if most:
                    self.assertIs(is_round(town[:3] + (most - 1,), tour), False)
                    self.assertNotIn(tour, rounds(town[:3] + (most - 1,)))

    def test_is_round(self):
        for town in RANDOM_TOWNS[:60]:
            good = rounds_by_definition(town)
            for k in range(0, 5):
                for row in permutations(range(0, 6), k):
                    self.assertIs(is_round(town, row), row in good)

    def test_no_rounds_of_the_town(self):
        for odd in (*ODD, (0,), (3,), (-1,), (1, 1), (1, 2, 1), (0, 1), (1, 0), (1, 2, 0), "1", (1, None), (1, "2"),
                    (1, [2]), (1, (2,)), ((1, 2),), {1: 2}, {1, 2}, 12, (1, {}), (1, 2, None), TOWN, (10 ** 39,)):
            self.assertIs(is_round(TOWN, odd), False, odd)

    def test_lists_and_bools(self):
        for tour in rounds(TOWN):
            for other in [*with_lists(tour), *with_bools(tour)]:
                self.assertEqual([is_round(TOWN, other), is_round(TOWN, tour)], [False, True])
        self.assertEqual([is_round(ONE, (True,)), is_round(ONE, (1,)), is_round(ONE, (True,))], [False, True, False])

    def test_cost(self):
        self.assertEqual([cost(TOWN, tour) for tour in rounds(TOWN)], [6, 8, 8, 8])
        for town in RANDOM_TOWNS:
            prices = {leg[:2]: leg[4] for leg in town[1]}
            for tour in rounds(town):
                self.assertEqual(cost(town, tour), sum(prices[ends] for ends in zip((0, *tour), (*tour, 0))))

    def test_loads(self):
        self.assertEqual([loads(TOWN, tour) for tour in rounds(TOWN)], [(1, 0), (2, 1, 0), (1, 0), (2, 1, 0)])
        for town in RANDOM_TOWNS:
            for tour in rounds(town):
                self.assertEqual(loads(town, tour), loads_by_definition(town, tour))

    def test_bad_round(self):
        functions = (
            cost,
            loads,
            lambda town, tour: is_day(town, tour, (2, 1, 3)),
            lambda town, tour: is_day(town, tour, None),
            lambda town, tour: begins(town, tour, (2, 1, 3)),
            lambda town, tour: broken(town, tour, None),
            lambda town, tour: late_legs(town, tour, ()),
        )
        for odd in (*ODD, (1, 1), (3,), (0,), [1, 2], (True, 2), (1, 2, 3), TOWN, (1, None), (-1,)):
            for function in functions:
                with self.assertRaises(BadRound) as caught:
                    function(TOWN, odd)
                self.assertIs(caught.exception.thing, odd)

    def test_bad_round_for_the_room_and_the_legs(self):
        small = TOWN[:3] + (1,)
        bare = (TOWN[0], TOWN[1][:3] + TOWN[1][4:], 20, 2)
        for town in (small, bare):
            for function in (cost, loads):
                with self.assertRaises(BadRound) as caught:
                    function(town, (1, 2))
                self.assertEqual(caught.exception.thing, (1, 2))

    def test_somewhat_beyond_the_limits(self):
        self.assertEqual(len(rounds(full_town(7))), 13699)


if __name__ == "__main__":
    unittest.main()
