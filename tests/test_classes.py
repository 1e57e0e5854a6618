"""Classes of standings, against a search that makes all possible moves."""

import unittest

from tests.support import NO_LENGTHS, NO_STANDINGS, Case, Plan, broom, fives, shapes, some_trees, spider
from treetrain.classes import class_of, class_size, count_classes, count_free, head_places, pockets, tail_places
from treetrain.climbing import pocket
from treetrain.errors import InvalidLength, InvalidStanding
from treetrain.railways import Railway
from treetrain.standings import standings

TREES = shapes(1, 7) + some_trees(6, 6) + some_trees(9, 6, seed=5) + [
    broom(5, 4), broom(3, 6), spider(2, 2, 2), spider(2, 2, 3), spider(3, 3, 3), spider(1, 1, 4, 4),
]
PLANS = [(Plan(tracks), Railway(*tracks)) for tracks in TREES]
# A railway with pockets that lie within others for the same length.
NESTED = Railway((0, 1), (0, 2), (2, 3), (0, 4), (1, 5), (5, 6), (1, 7))
GREAT = some_trees(100, 2) + [
    spider(99), spider(*[1] * 99), broom(50, 50), broom(96, 4), spider(33, 33, 33), spider(*[9] * 11),
]
OF_LENGTHS = (pockets, count_classes, count_free)
OF_STANDINGS = (class_size, head_places, tail_places)


def all_lengths(plan):
    """All lengths up to one more than the diameter, for which there is no standing."""
    return range(1, plan.diameter() + 2)


def first_of_class(railway, standing):
    return next(class_of(railway, standing))


class Members(Case):
    def test_the_standings_of_each_class(self):
        for plan, railway in PLANS:
            for length in all_lengths(plan):
                for group in plan.classes(length):
                    for standing in group:
                        self.assertEqual(list(class_of(railway, standing)), group)
                        self.assertEqual(class_size(railway, standing), len(group))

    def test_the_places_of_heads_and_tails(self):
        for plan, railway in PLANS:
            for length in all_lengths(plan):
                for group in plan.classes(length):
                    heads = tuple(sorted({head for head, _ in group}))
                    tails = tuple(sorted({tail for _, tail in group}))
                    for standing in group:
                        self.assertEqual(head_places(railway, standing), heads)
                        self.assertEqual(tail_places(railway, standing), tails)

    def test_pockets_within_others(self):
        # The places of (0, 1) hold more standings than its class has: some of them have a greater pocket.
        self.assertEqual((pocket(NESTED, (2, 7)), pocket(NESTED, (3, 7))), ((0, 1), (3, 7)))
        self.assertEqual((class_size(NESTED, (2, 7)), class_size(NESTED, (3, 7))), (5, 1))
        self.assertEqual(head_places(NESTED, (2, 7)), (0, 2, 3, 4))
        self.assertEqual(tail_places(NESTED, (2, 7)), (1, 5, 6, 7))

    def test_two_stations(self):
        self.assertEqual(list(class_of(Railway.line(2), (1, 0))), [(1, 0)])
        self.assertEqual(class_size(Railway.line(2), (1, 0)), 1)
        self.assertEqual((head_places(Railway.line(2), (1, 0)), tail_places(Railway.line(2), (1, 0))), ((1,), (0,)))

    def test_standings_are_yielded_one_by_one(self):
        rows = class_of(NESTED, (2, 7))
        self.assertEqual((next(rows), next(rows)), ((0, 6), (2, 5)))
        self.assertEqual(list(rows), [(2, 7), (3, 1), (4, 5)])
        self.assertRaises(StopIteration, next, rows)

    def test_kinds_of_results(self):
        self.assertIs(type(next(class_of(NESTED, (2, 7)))), tuple)
        self.assertIs(type(class_size(NESTED, (2, 7))), int)
        for function in (head_places, tail_places):
            self.assertIs(type(function(NESTED, (2, 7))), tuple)

    def test_wrong_standings(self):
        for railway in fives():
            for value in NO_STANDINGS:
                with self.subTest(value=value):
                    for function in OF_STANDINGS + (first_of_class,):
                        self.fails(InvalidStanding(value), function, railway, value)

    def test_wrong_standings_at_the_first_item(self):
        rows = class_of(Railway.line(5), [0, 1])
        self.fails(InvalidStanding([0, 1]), next, rows)

    def test_one_station(self):
        for function in OF_STANDINGS + (first_of_class,):
            self.fails(InvalidStanding((0, 0)), function, Railway(), (0, 0))

    def test_by_name(self):
        self.assertEqual(list(class_of(standing=(2, 7), railway=NESTED))[0], (0, 6))
        self.assertEqual(class_size(standing=(2, 7), railway=NESTED), 5)
        self.assertEqual(head_places(standing=(2, 7), railway=NESTED), (0, 2, 3, 4))
        self.assertEqual(tail_places(standing=(2, 7), railway=NESTED), (1, 5, 6, 7))


class Numbers(Case):
    def test_pockets(self):
        for plan, railway in PLANS:
            pairs = [pair for pair in sorted(plan.paths) if pair[0] != pair[1]]
            for length in all_lengths(plan):
                right = tuple(pair for pair in pairs if plan.is_pocket(length, pair))
                self.assertEqual(pockets(railway, length), right)

    def test_numbers_of_classes_and_of_free_standings(self):
        for plan, railway in PLANS:
            for length in all_lengths(plan):
                groups = plan.classes(length)
                free = [group for group in groups if not plan.clamps(group[0])]
                self.assertEqual(count_classes(railway, length), (len(groups) - len(free), len(free)))
                self.assertEqual(count_free(railway, length), sum(len(group) for group in free))

    def test_lines_and_stars(self):
        line, star = Railway.line(100), Railway.star(100)
        self.assertEqual((count_classes(line, 49), count_free(line, 49)), ((0, 2), 102))
        self.assertEqual((count_classes(line, 50), count_free(line, 50)), ((2, 0), 0))
        self.assertEqual(pockets(line, 50), ((49, 50), (50, 49)))
        self.assertEqual((count_classes(star, 1), count_free(star, 1), pockets(star, 1)), ((0, 1), 198, ()))
        self.assertEqual((count_classes(star, 2), count_free(star, 2)), ((99 * 98, 0), 0))
        self.assertEqual(pockets(star, 2)[:2] + pockets(star, 2)[-1:], ((1, 2), (1, 3), (99, 98)))

    def test_no_standings_of_a_length(self):
        for railway in [Railway(), Railway.line(2), Railway.star(9), Railway.line(100)]:
            for length in (railway.size, railway.size + 1, 9999, 10 ** 49):
                self.assertEqual(pockets(railway, length), ())
                self.assertEqual(count_classes(railway, length), (0, 0))
                self.assertEqual(count_free(railway, length), 0)

    def test_one_station(self):
        self.assertEqual((pockets(Railway(), 1), count_classes(Railway(), 1), count_free(Railway(), 1)), ((), (0, 0), 0))

    def test_hundred_stations(self):
        for tracks in GREAT:
            railway = Railway(*tracks)
            for length in (1, 2, 3, 5, 9, 18, 33, 48, 60, 98):
                with self.subTest(tracks=tracks[:3], length=length):
                    self.check_sizes(railway, length)

    def check_sizes(self, railway, length):
        """Asserts that the sizes of all classes add up to the number of standings of the length."""
        found = list(standings(railway, length))
        seen, clamped, free, loose = set(), 0, 0, 0
        for standing in found:
            if standing not in seen:
                members = list(class_of(railway, standing))
                self.assertEqual(class_size(railway, standing), len(members))
                self.assertFalse(seen.intersection(members))
                seen.update(members)
                if pocket(railway, standing) is None:
                    free += 1
                    loose += len(members)
                else:
                    clamped += 1
        self.assertEqual(sorted(seen), found)
        self.assertEqual(count_classes(railway, length), (clamped, free))
        self.assertEqual((len(pockets(railway, length)), count_free(railway, length)), (clamped, loose))

    def test_kinds_of_results(self):
        self.assertIs(type(pockets(NESTED, 3)), tuple)
        self.assertIs(type(pockets(NESTED, 3)[0]), tuple)
        self.assertIs(type(count_classes(NESTED, 3)), tuple)
        self.assertIs(type(count_free(NESTED, 2)), int)

    def test_wrong_lengths(self):
        for railway in fives() + [Railway()]:
            for value in NO_LENGTHS:
                with self.subTest(value=value):
                    for function in OF_LENGTHS:
                        self.fails(InvalidLength(value), function, railway, value)

    def test_by_name(self):
        self.assertEqual(pockets(length=3, railway=NESTED)[0], (0, 1))
        self.assertEqual(count_classes(length=3, railway=NESTED), (8, 0))
        self.assertEqual(count_free(length=1, railway=NESTED), 14)


if __name__ == "__main__":
    unittest.main()
