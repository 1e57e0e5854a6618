"""The passing length, the turning length, and what there is of each length."""

import unittest

from tests.support import NO_STANDINGS, Case, Plan, broom, fives, shapes, some_trees, spider
from treetrain.errors import InvalidStanding
from treetrain.lengths import can_turn, length_rows, passing_length, turning_length
from treetrain.railways import Railway

TREES = shapes(1, 7) + some_trees(6, 6) + some_trees(10, 6, seed=3) + [
    broom(5, 4), broom(3, 6), spider(2, 2, 2), spider(2, 2, 3), spider(3, 3, 3), spider(1, 1, 4, 4),
]
PLANS = [(Plan(tracks), Railway(*tracks)) for tracks in TREES]


class PassingAndTurning(unittest.TestCase):
    def test_the_greatest_length_with_a_trunk(self):
        for plan, railway in PLANS:
            lengths = [length for length in plan.lengths() if plan.trunk(length)]
            self.assertEqual(passing_length(railway), max(lengths, default=0))
            self.assertEqual(passing_length(railway), plan.diameter() // 2)

    def test_the_greatest_length_with_a_pivot(self):
        for plan, railway in PLANS:
            lengths = [length for length in plan.lengths() if plan.trunk(length, 3)]
            self.assertEqual(turning_length(railway), max(lengths, default=0))

    def test_what_leads_to_the_turned_standing(self):
        for plan, railway in PLANS:
            for length in plan.lengths():
                for standing in plan.standings(length):
                    right = standing[::-1] in plan.least_ways(standing)
                    self.assertIs(can_turn(railway, standing), right)

    def test_great_railways(self):
        rows = (
            (spider(99), 49, 0), (spider(*[1] * 99), 1, 1), (spider(33, 33, 33), 33, 33), (spider(40, 40, 19), 40, 19),
            (broom(50, 50), 25, 1), (spider(48, 48, 1, 1, 1), 48, 1), (spider(*[3] * 33), 3, 3),
        )
        for tracks, passing, turning in rows:
            railway = Railway(*tracks)
            self.assertEqual(railway.size, 100)
            self.assertEqual((passing_length(railway), turning_length(railway)), (passing, turning))

    def test_turning_on_great_railways(self):
        legs = Railway(*spider(40, 40, 19))
        self.assertIs(can_turn(legs, (0, 19)), True)
        self.assertIs(can_turn(legs, (0, 20)), False)
        self.assertIs(can_turn(legs, (40, 80)), False)
        self.assertIs(can_turn(Railway.line(100), (0, 1)), False)
        self.assertIs(can_turn(Railway.star(100), (0, 1)), True)
        self.assertIs(can_turn(Railway.star(100), (2, 1)), False)

    def test_one_and_two_stations(self):
        self.assertEqual((passing_length(Railway()), turning_length(Railway())), (0, 0))
        self.assertEqual((passing_length(Railway.line(2)), turning_length(Railway.line(2))), (0, 0))
        self.assertIs(can_turn(Railway.line(2), (0, 1)), False)

    def test_kinds_of_results(self):
        self.assertIs(type(passing_length(Railway.star(4))), int)
        self.assertIs(type(turning_length(Railway.star(4))), int)

    def test_by_name(self):
        self.assertEqual(passing_length(railway=Railway.star(4)), 1)
        self.assertEqual(turning_length(railway=Railway.star(4)), 1)
        self.assertIs(can_turn(standing=(0, 1), railway=Railway.star(4)), True)


class WrongStandings(Case):
    def test_wrong_standings(self):
        for railway in fives():
            for value in NO_STANDINGS:
                with self.subTest(value=value):
                    self.fails(InvalidStanding(value), can_turn, railway, value)
        self.fails(InvalidStanding((0, 0)), can_turn, Railway(), (0, 0))


class Rows(unittest.TestCase):
    def test_a_row_for_each_length(self):
        for plan, railway in PLANS:
            right = []
            for length in plan.lengths():
                groups = plan.classes(length)
                free = len([group for group in groups if not plan.clamps(group[0])])
                right.append((length, len(plan.standings(length)), len(groups) - free, free))
            self.assertEqual(list(length_rows(railway)), right)

    def test_one_station_has_no_rows(self):
        self.assertEqual(list(length_rows(Railway())), [])
        self.assertRaises(StopIteration, next, length_rows(Railway()))

    def test_two_stations(self):
        self.assertEqual(list(length_rows(Railway.line(2))), [(1, 2, 2, 0)])

    def test_hundred_stations(self):
        line = [(length, 2 * (100 - length), 2 * (length > 49), 2 * (length < 50)) for length in range(1, 100)]
        self.assertEqual(list(length_rows(Railway.line(100))), line)
        self.assertEqual(list(length_rows(Railway.star(100))), [(1, 198, 0, 1), (2, 9702, 9702, 0)])
        for tracks in some_trees(100, 3) + [broom(50, 50), spider(33, 33, 33)]:
            rows = list(length_rows(Railway(*tracks)))
            self.assertEqual([row[0] for row in rows], list(range(1, len(rows) + 1)))
            self.assertEqual(sum(row[1] for row in rows), 9900)

    def test_rows_are_yielded_one_by_one(self):
        rows = length_rows(Railway.line(5))
        self.assertEqual(next(rows), (1, 8, 0, 2))
        self.assertEqual(next(rows), (2, 6, 0, 2))
        self.assertEqual(list(rows), [(3, 4, 2, 0), (4, 2, 2, 0)])

    def test_kinds_of_results(self):
        for row in length_rows(Railway.star(4)):
            self.assertIs(type(row), tuple)
            self.assertEqual([type(number) for number in row], [int] * 4)

    def test_by_name(self):
        self.assertEqual(len(list(length_rows(railway=Railway.line(5)))), 4)


if __name__ == "__main__":
    unittest.main()
