"""The start and the goal, as the arguments of the functions about two standings."""

import unittest

from tests.support import NO_STANDINGS, Case, fives
from treetrain.deciding import check_decision, decide, leads
from treetrain.errors import InvalidStanding, NoWay, OtherLength
from treetrain.railways import Railway
from treetrain.ways import fewest_moves, shortest_way, way


def checked(railway, start, goal):
    return check_decision(railway, start, goal, ("way", ()))


def first_of_way(railway, start, goal):
    return next(way(railway, start, goal))


FUNCTIONS = (leads, decide, checked, first_of_way, fewest_moves, shortest_way)
LINE = Railway.line(5)


class Errors(Case):
    def test_wrong_standings(self):
        for function in FUNCTIONS:
            for railway in fives():
                for value in NO_STANDINGS:
                    with self.subTest(function=function, value=value):
                        self.fails(InvalidStanding(value), function, railway, value, (0, 1))
                        self.fails(InvalidStanding(value), function, railway, (0, 1), value)

    def test_the_first_wrong_argument_is_told(self):
        for function in FUNCTIONS:
            self.fails(InvalidStanding((1, 1)), function, LINE, (1, 1), (2, 2))
            self.fails(InvalidStanding((2, 2)), function, LINE, (0, 3), (2, 2))

    def test_other_lengths(self):
        for function in FUNCTIONS:
            self.fails(OtherLength((1, 2)), function, LINE, (0, 1), (0, 2))
            self.fails(OtherLength((4, 1)), function, LINE, (4, 0), (0, 1))
            self.fails(OtherLength((2, 1)), function, Railway.star(5), (1, 2), (1, 0))

    def test_one_station(self):
        for function in FUNCTIONS:
            self.fails(InvalidStanding((0, 0)), function, Railway(), (0, 0), (0, 0))

    def test_standings_are_looked_at_before_answers(self):
        for answer in (None, ("way", None), ("clamp", 1, 3), []):
            self.fails(InvalidStanding((1, 1)), check_decision, LINE, (1, 1), (2, 2), answer)
            self.fails(InvalidStanding((2, 2)), check_decision, LINE, (0, 1), (2, 2), answer)
            self.fails(OtherLength((1, 3)), check_decision, LINE, (0, 1), (0, 3), answer)

    def test_ways_raise_at_the_first_item(self):
        wrong_start = way(LINE, (1, 1), (0, 1))
        wrong_goal = way(LINE, (0, 1), None)
        other_length = way(LINE, (0, 1), (0, 2))
        no_way = way(LINE, (0, 2), (2, 0))
        self.fails(InvalidStanding((1, 1)), next, wrong_start)
        self.fails(InvalidStanding(None), next, wrong_goal)
        self.fails(OtherLength((1, 2)), next, other_length)
        self.assertRaises(NoWay, next, no_way)


class Names(unittest.TestCase):
    def test_by_name(self):
        self.assertIs(leads(goal=(1, 4), start=(0, 3), railway=LINE), True)
        self.assertEqual(decide(goal=(1, 4), start=(0, 3), railway=LINE), ("way", (("tail", 4),)))
        self.assertEqual(check_decision(answer=("clamp", 1, 3), goal=(4, 1), start=(0, 3), railway=LINE), "clamp")
        self.assertEqual(list(way(goal=(1, 4), start=(0, 3), railway=LINE)), [("tail", 4)])
        self.assertEqual(fewest_moves(goal=(1, 4), start=(0, 3), railway=LINE), 1)
        self.assertEqual(shortest_way(goal=(1, 4), start=(0, 3), railway=LINE), (("tail", 4),))


if __name__ == "__main__":
    unittest.main()
