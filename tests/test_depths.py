"""What is behind a station, depths, the diameter, the trunk and the pivots."""

import unittest

from tests.support import NO_LENGTHS, NO_STATIONS, Case, Plan, broom, small_trees
from treetrain.depths import behind, branch_depths, deep_branches, depth_behind, diameter, pivots, trunk
from treetrain.errors import InvalidLength, InvalidPair, InvalidStation
from treetrain.railways import Railway

TREES = small_trees() + [broom(4, 1), broom(6, 4), tuple((0, k) for k in range(1, 8)), tuple((k, k + 1) for k in range(9))]


class Behind(Case):
    def test_stations_and_depths_behind(self):
        for tracks in TREES:
            plan = Plan(tracks)
            railway = Railway(*tracks)
            for u in plan.stations:
                for v in plan.stations:
                    if u != v:
                        self.assertEqual(behind(railway, u, v), plan.behind(u, v))
                        self.assertEqual(depth_behind(railway, u, v), plan.depth_behind(u, v))

    def test_on_a_line(self):
        line = Railway.line(6)
        self.assertEqual(behind(line, 2, 5), (0, 1, 2))
        self.assertEqual(behind(line, 2, 0), (2, 3, 4, 5))
        self.assertEqual((depth_behind(line, 2, 5), depth_behind(line, 2, 0)), (2, 3))
        self.assertEqual((behind(line, 0, 3), depth_behind(line, 0, 3)), ((0,), 0))

    def test_on_a_star(self):
        star = Railway.star(5)
        self.assertEqual((behind(star, 0, 3), depth_behind(star, 0, 3)), ((0, 1, 2, 4), 1))
        self.assertEqual((behind(star, 3, 0), depth_behind(star, 3, 0)), ((3,), 0))
        self.assertEqual((behind(star, 3, 1), depth_behind(star, 3, 1)), ((3,), 0))

    def test_results_are_tuples(self):
        self.assertIs(type(behind(Railway.line(3), 1, 0)), tuple)
        self.assertIs(type(depth_behind(Railway.line(3), 1, 0)), int)

    def test_wrong_stations(self):
        for function in (behind, depth_behind):
            for wrong in NO_STATIONS:
                with self.subTest(function=function, wrong=wrong):
                    self.fails(InvalidStation(wrong), function, Railway.star(5), wrong, 0)
                    self.fails(InvalidStation(wrong), function, Railway.star(5), 0, wrong)
                    self.fails(InvalidStation(wrong), function, Railway.star(5), wrong, wrong)

    def test_the_first_wrong_argument_is_told(self):
        for function in (behind, depth_behind):
            self.fails(InvalidStation(5), function, Railway.star(5), 5, -1)
            self.fails(InvalidStation(-1), function, Railway.star(5), -1, 5)

    def test_equal_stations(self):
        for function in (behind, depth_behind):
            for station in range(5):
                self.fails(InvalidPair((station, station)), function, Railway.star(5), station, station)
            self.fails(InvalidPair((0, 0)), function, Railway(), 0, 0)

    def test_by_name(self):
        line = Railway.line(4)
        self.assertEqual(behind(seen_from=3, station=1, railway=line), (0, 1))
        self.assertEqual(depth_behind(seen_from=0, station=1, railway=line), 2)


class Branches(Case):
    def test_branch_depths(self):
        for tracks in TREES:
            plan = Plan(tracks)
            railway = Railway(*tracks)
            for station in plan.stations:
                self.assertEqual(branch_depths(railway, station), plan.branch_depths(station))

    def test_no_branches(self):
        self.assertEqual(branch_depths(Railway(), 0), ())
        self.assertEqual(deep_branches(Railway(), 0, 1), ())

    def test_deep_branches(self):
        for tracks in TREES:
            plan = Plan(tracks)
            railway = Railway(*tracks)
            for station in plan.stations:
                for length in (1, 2, 3, 4, 5, plan.size, 10 ** 49):
                    deep = tuple(q for q, depth in plan.branch_depths(station) if depth >= length)
                    self.assertEqual(deep_branches(railway, station, length), deep)

    def test_wrong_stations(self):
        for wrong in NO_STATIONS:
            with self.subTest(wrong=wrong):
                self.fails(InvalidStation(wrong), branch_depths, Railway.star(5), wrong)
                self.fails(InvalidStation(wrong), deep_branches, Railway.star(5), wrong, 1)
                self.fails(InvalidStation(wrong), deep_branches, Railway.star(5), wrong, 0)

    def test_wrong_lengths(self):
        for length in NO_LENGTHS:
            with self.subTest(length=length):
                self.fails(InvalidLength(length), deep_branches, Railway.star(5), 0, length)
                self.fails(InvalidLength(length), deep_branches, Railway(), 0, length)

    def test_by_name(self):
        star = Railway.star(3)
        self.assertEqual(branch_depths(station=1, railway=star), ((0, 2),))
        self.assertEqual(deep_branches(length=2, station=1, railway=star), (0,))


class Diameter(unittest.TestCase):
    def test_diameters(self):
        for tracks in TREES:
            self.assertEqual(diameter(Railway(*tracks)), Plan(tracks).diameter())

    def test_lines_and_stars(self):
        for count in (1, 2, 3, 4, 50, 100):
            self.assertEqual(diameter(Railway.line(count)), count - 1)
            self.assertEqual(diameter(Railway.star(count)), min(count - 1, 2))

    def test_by_name(self):
        self.assertEqual(diameter(railway=Railway.line(3)), 2)


class TrunkAndPivots(Case):
    def test_trunk_and_pivots(self):
        for tracks in TREES:
            plan = Plan(tracks)
            railway = Railway(*tracks)
            for length in range(1, plan.diameter() + 2):
                deep = [sum(depth >= length for _, depth in plan.branch_depths(p)) for p in plan.stations]
                self.assertEqual(trunk(railway, length), tuple(p for p in plan.stations if deep[p] >= 2))
                self.assertEqual(pivots(railway, length), tuple(p for p in plan.stations if deep[p] >= 3))

    def test_the_trunk_is_not_empty_exactly_if_the_diameter_is_twice_the_length(self):
        for tracks in TREES:
            railway = Railway(*tracks)
            for length in range(1, railway.size + 1):
                self.assertEqual(trunk(railway, length) != (), diameter(railway) >= 2 * length)

    def test_one_station_and_great_lengths(self):
        self.assertEqual((trunk(Railway(), 1), pivots(Railway(), 1)), ((), ()))
        self.assertEqual((trunk(Railway.star(5), 10 ** 49), pivots(Railway.star(5), 10 ** 49)), ((), ()))

    def test_hundred_stations(self):
        self.assertEqual(trunk(Railway.line(100), 40), tuple(range(40, 60)))
        self.assertEqual(pivots(Railway.line(100), 40), ())
        self.assertEqual((trunk(Railway.star(100), 1), pivots(Railway.star(100), 1)), ((0,), (0,)))

    def test_wrong_lengths(self):
        for length in NO_LENGTHS:
            for railway in (Railway(), Railway.star(5)):
                with self.subTest(length=length):
                    self.fails(InvalidLength(length), trunk, railway, length)
                    self.fails(InvalidLength(length), pivots, railway, length)

    def test_by_name(self):
        self.assertEqual(trunk(length=1, railway=Railway.line(3)), (1,))
        self.assertEqual(pivots(length=1, railway=Railway.star(4)), (0,))


if __name__ == "__main__":
    unittest.main()
