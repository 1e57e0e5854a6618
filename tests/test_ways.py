"""Ways, the fewest moves, and the least of the shortest ways."""

import unittest

from tests.support import Case, Plan, broom, shapes, some_trees, spider
from treetrain.deciding import check_decision
from treetrain.errors import InvalidStanding, NoWay, OtherLength, TooMany
from treetrain.railways import Railway
from treetrain.standings import moved_along
from treetrain.ways import fewest_moves, shortest_way, way

TREES = shapes(2, 7) + some_trees(6, 6) + some_trees(8, 3, seed=9) + [broom(5, 4), spider(2, 2, 2), spider(2, 2, 3)]
PLANS = [(Plan(tracks), Railway(*tracks)) for tracks in TREES]


def first_of_way(railway, start, goal):
    return next(way(railway, start, goal))


class NoWayCase(Case):
    def has_no_way(self, function, railway, start, goal):
        """Asserts that a call raises NoWay, with a decision that is not a way."""
        with self.assertRaises(NoWay) as caught:
            function(railway, start, goal)
        self.assertIs(type(caught.exception), NoWay)
        self.assertEqual(list(vars(caught.exception)), ["reason"])
        reason = caught.exception.reason
        self.assertIn(check_decision(railway, start, goal, reason), ("clamp", "divide"))


class Way(NoWayCase):
    def test_a_way_exactly_if_there_is_one(self):
        for plan, railway in PLANS:
            for _, start, goal, ways in plan.pairs_of_standings():
                if goal in ways:
                    self.leads_along(plan, start, goal, list(way(railway, start, goal)))
                else:
                    self.has_no_way(first_of_way, railway, start, goal)

    def test_no_moves(self):
        self.assertEqual(list(way(Railway.line(5), (0, 3), (0, 3))), [])
        self.assertEqual(list(way(Railway.star(5), (1, 2), (1, 2))), [])

    def test_moves_are_yielded_one_by_one(self):
        rows = way(Railway.line(5), (0, 2), (2, 4))
        self.assertEqual((next(rows), next(rows)), (("tail", 3), ("tail", 4)))
        self.assertRaises(StopIteration, next, rows)

    def test_hundred_stations(self):
        for tracks in some_trees(100, 3) + [spider(33, 33, 33), broom(60, 40), tuple((0, k) for k in range(1, 100))]:
            railway = Railway(*tracks)
            for start in (tracks[0], tracks[50], tracks[98]):
                goal = start[::-1]
                moves = tuple(way(railway, start, goal))
                self.assertLessEqual(len(moves), 40000)
                self.assertEqual(moved_along(railway, start, moves), goal)
        legs = Railway(*spider(33, 33, 33))
        self.assertEqual(moved_along(legs, (33, 0), tuple(way(legs, (33, 0), (66, 0)))), (66, 0))
        self.has_no_way(first_of_way, Railway.line(100), (0, 49), (49, 0))
        self.has_no_way(first_of_way, Railway.line(100), (0, 60), (60, 0))


class Fewest(NoWayCase):
    def test_against_a_search(self):
        for plan, railway in PLANS:
            for _, start, goal, ways in plan.pairs_of_standings():
                if goal in ways:
                    self.assertEqual(shortest_way(railway, start, goal), ways[goal])
                    self.assertEqual(fewest_moves(railway, start, goal), len(ways[goal]))
                else:
                    self.has_no_way(fewest_moves, railway, start, goal)
                    self.has_no_way(shortest_way, railway, start, goal)

    def test_greater_railways(self):
        for tracks in some_trees(16, 4) + [broom(9, 6), spider(5, 5, 5), spider(4, 4, 2, 2)]:
            plan, railway = Plan(tracks), Railway(*tracks)
            for length in plan.lengths():
                start = plan.standings(length)[-1]
                for goal, moves in plan.least_ways(start).items():
                    self.assertEqual(shortest_way(railway, start, goal), moves)

    def test_the_least_one(self):
        star = Railway.star(5)
        self.assertEqual(shortest_way(star, (1, 0), (0, 1)), (("tail", 2), ("head", 3), ("tail", 1)))
        self.assertEqual(shortest_way(star, (2, 0), (0, 2)), (("tail", 1), ("head", 3), ("tail", 2)))
        self.assertEqual(shortest_way(star, (0, 1), (1, 0)), (("head", 2), ("tail", 3), ("head", 1)))

    def test_kinds_of_results(self):
        moves = shortest_way(Railway.line(5), (0, 3), (1, 4))
        self.assertIs(type(moves), tuple)
        self.assertIs(type(moves[0]), tuple)
        self.assertIs(type(fewest_moves(Railway.line(5), (0, 3), (1, 4))), int)

    def test_no_moves(self):
        self.assertEqual(fewest_moves(Railway.line(5), (0, 3), (0, 3)), 0)
        self.assertEqual(shortest_way(Railway.line(5), (0, 3), (0, 3)), ())

    def test_forty_stations(self):
        line, legs, star = Railway.line(40), Railway(*spider(13, 13, 13)), Railway.star(40)
        self.assertEqual(fewest_moves(line, (0, 19), (20, 39)), 20)
        self.assertEqual(shortest_way(line, (0, 19), (20, 39)), tuple(("tail", k) for k in range(20, 40)))
        self.assertEqual(fewest_moves(legs, (0, 13), (13, 0)), 39)
        self.assertEqual(shortest_way(legs, (0, 13), (13, 0))[:2], (("head", 14), ("head", 15)))
        self.assertEqual(fewest_moves(star, (0, 39), (39, 0)), 3)
        for function in (fewest_moves, shortest_way):
            self.has_no_way(function, line, (0, 19), (19, 0))
            self.has_no_way(function, line, (0, 30), (30, 0))

    def test_more_than_forty_stations(self):
        for function in (fewest_moves, shortest_way):
            for size in (41, 42, 100):
                line = Railway.line(size)
                self.fails(TooMany(40), function, line, (0, 1), (1, 2))
                self.fails(TooMany(40), function, line, (0, 1), (0, 1))
                self.fails(TooMany(40), function, line, (0, 1), (1, 0))
                self.fails(TooMany(40), function, line, (0, 39), (39, 0))
                self.fails(TooMany(40), function, Railway.star(size), (1, 2), (2, 1))

    def test_more_than_forty_stations_are_told_behind_wrong_standings(self):
        for function in (fewest_moves, shortest_way):
            line = Railway.line(41)
            self.fails(InvalidStanding((0, 41)), function, line, (0, 41), (1, 1))
            self.fails(InvalidStanding((1, 1)), function, line, (0, 1), (1, 1))
            self.fails(OtherLength((1, 2)), function, line, (0, 1), (0, 2))


if __name__ == "__main__":
    unittest.main()
