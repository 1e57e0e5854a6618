"""Clamps, pockets, free standings, and the climb."""

import unittest

from tests.support import NO_LENGTHS, NO_STANDINGS, Case, Plan, broom, fives, shapes, some_trees, spider
from treetrain.climbing import clamps, climb, is_clamp, is_free, is_pocket, pocket
from treetrain.errors import InvalidLength, InvalidStanding
from treetrain.railways import Railway

TREES = shapes(1, 7) + some_trees(7, 8) + some_trees(9, 6) + some_trees(12, 3) + [
    broom(6, 3), broom(4, 5), spider(2, 2, 2), spider(3, 3, 3), spider(1, 3, 4), spider(2, 2, 2, 2),
]
PLANS = [(Plan(tracks), Railway(*tracks)) for tracks in TREES]
FIVES = fives()


def climb_step_by_step(plan, standing):
    """The climb by the words of point 13, and whether it ends because a depth is at least the length."""
    u, v = standing
    length = plan.distance(u, v)
    pairs = [standing]
    while True:
        before = (u, v)
        if plan.depths[u, v] >= length or plan.depths[v, u] >= length:
            return pairs, True
        v = plan.paths[u, v][length - plan.depths[u, v]]
        pairs.append((u, v))
        if plan.depths[u, v] >= length or plan.depths[v, u] >= length:
            return pairs, True
        u = plan.paths[v, u][length - plan.depths[v, u]]
        pairs.append((u, v))
        if (u, v) == before:
            return pairs, False


def without_repetitions(pairs):
    return [pair for at, pair in enumerate(pairs) if at == 0 or pair != pairs[at - 1]]


class ClampsAndPockets(Case):
    def test_all_pairs(self):
        for plan, railway in PLANS:
            for length in range(1, plan.size + 2):
                for pair in plan.depths:
                    self.assertIs(is_clamp(railway, length, pair), plan.is_clamp(length, pair))
                    self.assertIs(is_pocket(railway, length, pair), plan.is_pocket(length, pair))

    def test_a_line(self):
        line = Railway.line(5)
        self.assertTrue(is_clamp(line, 3, (1, 3)) and is_clamp(line, 3, (1, 2)) and is_clamp(line, 3, (3, 1)))
        self.assertFalse(is_clamp(line, 3, (0, 3)) or is_clamp(line, 3, (1, 4)) or is_clamp(line, 2, (1, 2)))
        self.assertTrue(is_pocket(line, 3, (1, 3)) and is_pocket(line, 3, (3, 1)) and is_pocket(line, 4, (0, 4)))
        self.assertFalse(is_pocket(line, 3, (1, 2)) or is_pocket(line, 3, (0, 4)) or is_pocket(line, 2, (1, 3)))

    def test_the_distance_is_at_most_the_length(self):
        self.assertFalse(is_clamp(Railway.line(4), 2, (0, 3)))
        self.assertTrue(is_clamp(Railway.line(4), 3, (0, 3)))

    def test_great_lengths(self):
        for railway in FIVES:
            self.assertIs(is_clamp(railway, 10 ** 49, (4, 0)), True)
            self.assertIs(is_pocket(railway, 10 ** 49, (4, 0)), False)

    def test_other_values(self):
        more = ((0, 1, 2), ((0, 1), (1, 2)), (0, 1, 3), [1, 3], (1, [3]), (3, 3), (2, 2), (4, 5), (-1, 4), (True, 3), (3, True))
        for railway in FIVES:
            for value in NO_STANDINGS + more:
                for length in (1, 3, 4, 100):
                    with self.subTest(value=value):
                        self.assertIs(is_clamp(railway, length, value), False)
                        self.assertIs(is_pocket(railway, length, value), False)

    def test_one_station(self):
        for value in NO_STANDINGS + ((0, 1), (1, 0)):
            self.assertIs(is_clamp(Railway(), 1, value), False)
            self.assertIs(is_pocket(Railway(), 1, value), False)

    def test_wrong_lengths(self):
        for length in NO_LENGTHS:
            for value in ((0, 1), (1, 1), None, [0, 1]):
                with self.subTest(length=length, value=value):
                    self.fails(InvalidLength(length), is_clamp, FIVES[0], length, value)
                    self.fails(InvalidLength(length), is_pocket, FIVES[0], length, value)

    def test_arguments_are_not_modified(self):
        value = [0, [1, 2], {}]
        is_clamp(FIVES[0], 1, value)
        is_pocket(FIVES[0], 1, value)
        self.assertEqual(value, [0, [1, 2], {}])

    def test_by_name(self):
        line = Railway.line(5)
        self.assertTrue(is_clamp(value=(1, 2), length=3, railway=line))
        self.assertTrue(is_pocket(value=(1, 3), length=3, railway=line))


class ClampsOfStandings(Case):
    def test_the_pairs_on_the_body_that_are_clamps(self):
        for plan, railway in PLANS:
            for standing in plan.depths:
                found = clamps(railway, standing)
                self.assertEqual(found, plan.clamps(standing))
                self.assertEqual(list(found), sorted(found))
                self.assertIs(type(found), tuple)
                self.assertIs(is_free(railway, standing), found == ())

    def test_the_first_station_is_not_farther_from_the_head(self):
        self.assertEqual(clamps(Railway.line(5), (3, 0)), ((2, 1), (3, 1), (3, 2)))
        self.assertEqual(clamps(Railway.line(3), (2, 0)), ((1, 0), (2, 0), (2, 1)))

    def test_clamps_stay_in_a_class(self):
        for plan, railway in PLANS:
            for length in plan.lengths():
                for group in plan.classes(length):
                    self.assertEqual(len({clamps(railway, standing) for standing in group}), 1)

    def test_hundred_stations(self):
        line = Railway.line(100)
        self.assertEqual(len(clamps(line, (0, 99))), 50 * 99)
        self.assertEqual(clamps(line, (0, 50)), ((49, 50),))
        self.assertEqual((clamps(line, (30, 79)), is_free(line, (30, 79))), ((), True))

    def test_wrong_standings(self):
        for railway in FIVES:
            for value in NO_STANDINGS:
                with self.subTest(value=value):
                    self.fails(InvalidStanding(value), clamps, railway, value)
                    self.fails(InvalidStanding(value), is_free, railway, value)
                    self.fails(InvalidStanding(value), pocket, railway, value)

    def test_by_name(self):
        line = Railway.line(5)
        self.assertEqual(clamps(standing=(0, 4), railway=line)[0], (0, 1))
        self.assertIs(is_free(standing=(0, 2), railway=line), True)
        self.assertEqual(pocket(standing=(0, 4), railway=line), (0, 4))
        self.assertEqual(list(climb(standing=(0, 4), railway=line)), [(0, 4)])


class Climb(Case):
    def test_step_by_step(self):
        for plan, railway in PLANS:
            for standing in plan.depths:
                pairs, free = climb_step_by_step(plan, standing)
                self.assertEqual(list(climb(railway, standing)), without_repetitions(pairs))
                self.assertEqual(pocket(railway, standing), None if free else pairs[-1])

    def test_the_tail_side_is_replaced_first(self):
        railway = Railway((0, 1), (1, 2), (2, 3), (3, 4), (4, 5), (5, 6))
        self.assertEqual(list(climb(railway, (1, 5))), [(1, 5), (1, 4), (2, 4)])
        self.assertEqual(list(climb(railway, (5, 1))), [(5, 1), (5, 2), (4, 2)])

    def test_many_steps(self):
        # Side tracks let each replacement find a depth that is greater by one than the one before it.
        steps = [len(list(climb(railway, standing))) for plan, railway in PLANS for standing in plan.depths]
        self.assertGreaterEqual(max(steps), 4)

    def test_only_the_standing_itself(self):
        self.assertEqual(list(climb(Railway.line(5), (0, 2))), [(0, 2)])
        self.assertEqual(list(climb(Railway.star(5), (1, 2))), [(1, 2)])
        self.assertEqual(list(climb(Railway.line(2), (1, 0))), [(1, 0)])

    def test_pairs_are_yielded_one_by_one(self):
        rows = climb(Railway.line(5), (0, 3))
        self.assertEqual((next(rows), next(rows)), ((0, 3), (1, 3)))
        self.assertRaises(StopIteration, next, rows)

    def test_wrong_standings_at_the_first_item(self):
        for railway in FIVES:
            for value in NO_STANDINGS:
                with self.subTest(value=value):
                    rows = climb(railway, value)
                    self.fails(InvalidStanding(value), next, rows)


class Pockets(Case):
    def test_one_pocket_for_each_class_of_clamped_standings(self):
        for plan, railway in PLANS:
            for length in plan.lengths():
                found = []
                for group in plan.classes(length):
                    pockets = {pocket(railway, standing) for standing in group}
                    self.assertEqual(len(pockets), 1)
                    found += [pair for pair in pockets if pair is not None]
                self.assertEqual(len(found), len(set(found)))
                self.assertEqual(sorted(found), [pair for pair in sorted(plan.depths) if plan.is_pocket(length, pair)])

    def test_the_pocket_is_what_all_bodies_of_a_class_have_in_common(self):
        for plan, railway in PLANS:
            for length in plan.lengths():
                for group in plan.classes(length):
                    found = pocket(railway, group[0])
                    common = set.intersection(*[set(plan.paths[standing]) for standing in group])
                    if found is not None:
                        self.assertEqual(set(plan.paths[found]), common)
                        self.assertTrue(all(plan.has(standing, found) for standing in group))

    def test_it_is_the_greatest_clamp(self):
        for plan, railway in PLANS:
            for standing in plan.depths:
                found = pocket(railway, standing)
                self.assertIs(found is None, is_free(railway, standing))
                for clamp in clamps(railway, standing):
                    self.assertTrue(set(clamp) <= set(plan.paths[found]))

    def test_hundred_stations(self):
        line = Railway.line(100)
        self.assertEqual(pocket(line, (0, 60)), (39, 60))
        self.assertEqual(pocket(line, (99, 49)), (50, 49))
        self.assertEqual(pocket(Railway.star(100), (1, 99)), (1, 99))
        self.assertIsNone(pocket(Railway.star(100), (0, 99)))


if __name__ == "__main__":
    unittest.main()
