"""Lines, marks, and divides."""

import unittest

from tests.support import NO_LENGTHS, NO_STANDINGS, NO_STATIONS, Case, Plan, broom, shapes, some_trees, spider
from treetrain.divides import find_divide, is_divide, is_line, mark
from treetrain.errors import InvalidLength, InvalidLine, InvalidStation
from treetrain.railways import Railway

TREES = shapes(1, 7) + some_trees(7, 8) + some_trees(9, 6) + some_trees(12, 3) + [
    broom(6, 3), broom(4, 5), spider(2, 2, 2), spider(1, 3, 4), spider(2, 2, 2, 2), spider(1, 4, 4),
]
PLANS = [(Plan(tracks), Railway(*tracks)) for tracks in TREES]
# Each is no line on a railway with the tracks (0, 1), (1, 2), (2, 3), (2, 4).
NO_LINES = tuple(value for value in NO_STANDINGS if value != (0, 1, 2)) + (
    (0,), (4,), (0, 2), (3, 4), (0, 1, 3), (0, 1, 0), (0, 1, 1), (0, 0, 1), (0, 1, 2, 1), (0, 2, 1), (3, 2, 3), (0, 1, 2, 3, 4),
    (0, 1, 2, 3, 2, 4), (0, True), (False, 1), (0, True, 2), (2, True), (0, 1, 2, 5), (-1, 0, 1), (0, 1, None), (None, 0, 1),
    (0, "1"), ("0", 1), (0, (1, 2)), ((0, 1, 2),), [0, 1, 2], [0, 1], (0, [1]), ([0], [1]), {0: 1, 1: 2}, "012",
    (0, 1) * 25000, (0, 1, 10 ** 49), (1, 0, 2), (4, 2, 3, 2),
)
FORK = Railway((0, 1), (1, 2), (2, 3), (2, 4))


class Lines(Case):
    def test_paths(self):
        for plan, railway in PLANS:
            for path in plan.paths.values():
                self.assertIs(is_line(railway, path), len(path) > 1)
                self.assertIs(is_line(railway, path[::-1]), len(path) > 1)
                self.assertIs(is_line(railway, list(path)), False)

    def test_a_station_is_left_out(self):
        for plan, railway in PLANS:
            for line in plan.lines():
                for at in range(len(line)):
                    shorter = line[:at] + line[at + 1:]
                    inner = 0 < at < len(line) - 1
                    self.assertIs(is_line(railway, shorter), len(shorter) > 1 and not inner)

    def test_a_station_is_repeated(self):
        for plan, railway in PLANS:
            for line in plan.lines():
                for at, station in enumerate(line):
                    self.assertIs(is_line(railway, line[:at] + (station,) + line[at:]), False)
                    if line[-1] != station:
                        self.assertIs(is_line(railway, line + (station,)), False)

    def test_a_station_is_exchanged(self):
        for plan, railway in PLANS:
            for line in plan.lines():
                for at in range(len(line)):
                    for station in plan.stations:
                        other = line[:at] + (station,) + line[at + 1:]
                        self.assertIs(is_line(railway, other), plan.paths[other[0], other[-1]] == other)

    def test_other_values(self):
        for value in NO_LINES:
            with self.subTest(value=str(value)[:80]):
                self.assertIs(is_line(FORK, value), False)

    def test_one_station(self):
        for value in ((), (0,), (0, 0), (0, 1)):
            self.assertIs(is_line(Railway(), value), False)

    def test_hundred_stations(self):
        line = tuple(range(100))
        self.assertTrue(is_line(Railway.line(100), line) and is_line(Railway.line(100), line[::-1]))
        self.assertFalse(is_line(Railway.line(100), line + (99,)) or is_line(Railway.line(100), line[:50] + line[51:]))

    def test_arguments_are_not_modified(self):
        value = [0, [1, 2]]
        is_line(FORK, value)
        is_divide(FORK, 1, value)
        self.assertEqual(value, [0, [1, 2]])

    def test_by_name(self):
        self.assertTrue(is_line(value=(0, 1), railway=FORK))


class Divides(Case):
    def test_the_definition(self):
        for plan, railway in PLANS:
            for length in range(1, plan.size + 1):
                for line in plan.lines():
                    self.assertIs(is_divide(railway, length, line), plan.is_divide(length, line))

    def test_side_branches_are_less_deep_than_the_length(self):
        railway = Railway(*spider(2, 4, 4))
        line = (6, 5, 4, 3, 0, 7, 8, 9, 10)
        self.assertEqual([is_divide(railway, length, line) for length in (1, 2, 3, 4)], [False, False, True, True])

    def test_the_ends_of_a_line_have_branches_too(self):
        line = Railway.line(7)
        self.assertIs(is_divide(line, 2, (1, 2, 3, 4, 5)), True)
        self.assertIs(is_divide(line, 2, (2, 3, 4, 5)), False)
        self.assertIs(is_divide(line, 2, (1, 2, 3, 4)), False)
        self.assertIs(is_divide(line, 1, (1, 2, 3, 4, 5)), False)

    def test_great_lengths(self):
        self.assertIs(is_divide(FORK, 10 ** 49, (3, 2)), True)

    def test_other_values(self):
        for value in NO_LINES:
            for length in (1, 2, 4, 10 ** 49):
                with self.subTest(value=str(value)[:80]):
                    self.assertIs(is_divide(FORK, length, value), False)

    def test_wrong_lengths(self):
        for length in NO_LENGTHS:
            for value in ((0, 1), (0, 2), None, [0, 1]):
                with self.subTest(length=length, value=value):
                    self.fails(InvalidLength(length), is_divide, FORK, length, value)

    def test_by_name(self):
        self.assertTrue(is_divide(value=(0, 1, 2, 3), length=2, railway=FORK))


class Marks(Case):
    def test_the_nearest_station_of_the_line(self):
        for plan, railway in PLANS:
            for line in plan.lines():
                for station in plan.stations:
                    self.assertEqual(mark(railway, line, station), plan.mark(line, station))

    def test_on_and_off_the_line(self):
        railway = Railway(*spider(3, 1, 2))
        line = (2, 1, 0, 5)
        self.assertEqual([mark(railway, line, station) for station in range(7)], [2, 1, 0, 0, 2, 3, 3])
        self.assertIs(type(mark(railway, line, 4)), int)

    def test_wrong_lines(self):
        for value in NO_LINES:
            with self.subTest(value=str(value)[:80]):
                self.fails(InvalidLine(value), mark, FORK, value, 0)
                self.fails(InvalidLine(value), mark, FORK, value, 5)
                self.fails(InvalidLine(value), mark, FORK, value, None)

    def test_wrong_stations(self):
        for value in NO_STATIONS:
            with self.subTest(value=value):
                self.fails(InvalidStation(value), mark, FORK, (0, 1, 2), value)

    def test_by_name(self):
        self.assertEqual(mark(station=4, line=(0, 1, 2, 3), railway=FORK), 2)


class FindDivide(Case):
    def test_a_divide_with_the_trunk_where_there_is_one(self):
        for plan, railway in PLANS:
            for length in range(1, plan.size + 1):
                trunk = plan.trunk(length)
                line = find_divide(railway, length)
                if not trunk or plan.trunk(length, 3):
                    self.assertIsNone(line)
                else:
                    self.assertIn(line, plan.lines())
                    self.assertIs(type(line), tuple)
                    self.assertTrue(plan.is_divide(length, line))
                    self.assertTrue(set(trunk) <= set(line))

    def test_marks_of_free_standings_are_different(self):
        for plan, railway in PLANS:
            for length in plan.lengths():
                line = find_divide(railway, length)
                for standing in plan.standings(length):
                    if line is not None and not plan.clamps(standing):
                        head, tail = standing
                        self.assertNotEqual(plan.mark(line, head), plan.mark(line, tail))

    def test_no_divide(self):
        self.assertIsNone(find_divide(Railway(), 1))
        self.assertIsNone(find_divide(Railway.line(2), 1))
        self.assertIsNone(find_divide(Railway.line(4), 2))
        self.assertIsNone(find_divide(Railway.star(4), 1))
        self.assertIsNone(find_divide(Railway.line(5), 10 ** 49))
        self.assertIsNone(find_divide(Railway(*spider(3, 3, 3)), 3))
        self.assertIsNotNone(find_divide(Railway.line(5), 2))
        self.assertIsNotNone(find_divide(Railway(*spider(3, 3, 2)), 3))

    def test_hundred_stations(self):
        railway = Railway.line(100)
        for length in (1, 30, 49):
            line = find_divide(railway, length)
            self.assertTrue(is_divide(railway, length, line))
            self.assertTrue(set(range(length, 100 - length)) <= set(line))
        self.assertIsNone(find_divide(railway, 50))

    def test_wrong_lengths(self):
        for length in NO_LENGTHS:
            for railway in (FORK, Railway(), Railway.star(5)):
                with self.subTest(length=length):
                    self.fails(InvalidLength(length), find_divide, railway, length)

    def test_by_name(self):
        self.assertIsNone(find_divide(length=3, railway=FORK))


if __name__ == "__main__":
    unittest.main()
