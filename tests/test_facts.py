"""The facts of the document, 1 to 9, as the functions of the program tell them."""

import random
import unittest
from itertools import product

from tests.support import Case, Plan, broom, shapes, some_trees, spider
from treetrain.changes import extended, halved, renamed
from treetrain.classes import class_of, class_size, count_classes, count_free, head_places, pockets, tail_places
from treetrain.climbing import clamps, climb, is_clamp, is_free, is_pocket, pocket
from treetrain.deciding import check_decision, decide, leads
from treetrain.depths import behind, depth_behind, diameter, pivots, trunk
from treetrain.divides import find_divide, is_divide, mark
from treetrain.errors import InvalidAnswer
from treetrain.lengths import can_turn, passing_length, turning_length
from treetrain.railways import Railway
from treetrain.standings import body_of, front_part, length_of, rear_part, standings, turned

FEW = [Railway(*tracks) for tracks in shapes(1, 6)]
TREES = shapes(1, 7) + some_trees(9, 4) + [
    broom(4, 4), spider(2, 2, 2), spider(2, 2, 3), spider(1, 3, 3), ((0, 1), (0, 2), (2, 3), (0, 4), (1, 5), (5, 6), (1, 7)),
]
RAILWAYS = [Railway(*tracks) for tracks in TREES]


def all_lengths(railway):
    return range(1, diameter(railway) + 2)


def classes(railway, length):
    """The classes of a length, each as a list of standings."""
    found = []
    for standing in standings(railway, length):
        if not any(standing in group for group in found):
            found.append(list(class_of(railway, standing)))
    return found


def pairs_of(railway):
    """All pairs of standings of one length."""
    for length in all_lengths(railway):
        yield from product(list(standings(railway, length)), repeat=2)


class Facts(Case):
    def is_decision(self, railway, start, goal, answer):
        try:
            return check_decision(railway, start, goal, answer) == answer[0]
        except InvalidAnswer:
            return False

    def test_1_all_standings_of_a_class_have_the_same_clamps(self):
        for railway in RAILWAYS:
            for length in all_lengths(railway):
                for group in classes(railway, length):
                    for standing in group:
                        self.assertEqual(clamps(railway, standing), clamps(railway, group[0]))

    def test_2_the_climb_ends_at_the_greatest_clamp(self):
        for railway in RAILWAYS:
            for length in all_lengths(railway):
                for standing in standings(railway, length):
                    u, v = list(climb(railway, standing))[-1]
                    free = max(depth_behind(railway, u, v), depth_behind(railway, v, u)) >= length
                    self.assertIs(is_free(railway, standing), free)
                    found = clamps(railway, standing)
                    self.assertEqual(found == (), free)
                    self.assertEqual(pocket(railway, standing), None if free else (u, v))
                    if not free:
                        self.assertTrue(is_pocket(railway, length, (u, v)) and is_clamp(railway, length, (u, v)))
                        between = railway.path(u, v)
                        self.assertTrue(all(x in between and y in between for x, y in found))

    def test_2_pockets_name_the_clamped_classes(self):
        for railway in RAILWAYS:
            for length in all_lengths(railway):
                groups = [group for group in classes(railway, length) if not is_free(railway, group[0])]
                names = [pocket(railway, group[0]) for group in groups]
                self.assertEqual(tuple(sorted(names)), pockets(railway, length))
                for group, name in zip(groups, names):
                    bodies = [body_of(railway, standing) for standing in group]
                    common = [x for x in range(railway.size) if all(x in body for body in bodies)]
                    self.assertEqual(common, sorted(railway.path(*name)))
                    self.assertEqual([pocket(railway, standing) for standing in group], [name] * len(group))

    def test_3_free_classes(self):
        for railway in RAILWAYS:
            for length in all_lengths(railway):
                groups = [group for group in classes(railway, length) if is_free(railway, group[0])]
                self.assertEqual(groups != [], trunk(railway, length) != ())
                self.assertEqual(groups != [], diameter(railway) >= 2 * length)
                self.assertTrue(all(is_free(railway, standing) for group in groups for standing in group))
                self.assertEqual(sum(len(group) for group in groups), count_free(railway, length))
                self.assertEqual(count_classes(railway, length)[1], len(groups))
                if groups:
                    self.assertEqual(len(groups), 1 if pivots(railway, length) else 2)
                if len(groups) == 2:
                    self.assertEqual(sorted(turned(railway, standing) for standing in groups[0]), groups[1])

    def test_4_places_and_numbers(self):
        for railway in RAILWAYS:
            for length in all_lengths(railway):
                sizes = {}
                # The greatest pockets come first, because smaller ones count what lies in them.
                for u, v in sorted(pockets(railway, length), key=lambda pair: -railway.distance(*pair)):
                    heads, tails = behind(railway, u, v), behind(railway, v, u)
                    slack = length - railway.distance(u, v)
                    far = [[railway.distance(u, x) for x in heads], [railway.distance(v, x) for x in tails]]
                    many = sum(far[0].count(k) * far[1].count(slack - k) for k in range(slack + 1))
                    sizes[u, v] = many - sum(sizes[x, y] for x, y in sizes if x in heads and y in tails)
                    standing = self.standing_in(railway, length, (u, v))
                    self.assertEqual(class_size(railway, standing), sizes[u, v])
                    self.assertEqual((head_places(railway, standing), tail_places(railway, standing)), (heads, tails))

    def standing_in(self, railway, length, name):
        """A standing with a pocket."""
        return next(standing for standing in standings(railway, length) if pocket(railway, standing) == name)

    def test_5_on_a_divide_marks_stay_in_order(self):
        for railway in RAILWAYS:
            lines = [railway.path(a, b) for a in range(railway.size) for b in range(railway.size) if a != b]
            for length in all_lengths(railway):
                groups = classes(railway, length)
                for line in [line for line in lines if is_divide(railway, length, line)]:
                    for group in groups:
                        orders = {self.order(railway, line, standing) for standing in group}
                        self.assertFalse({-1, 1} <= orders)
                        # A class with the one order has it throughout.
                        self.assertTrue(len(orders) == 1)
                found = find_divide(railway, length)
                if trunk(railway, length) and not pivots(railway, length):
                    self.assertTrue(set(trunk(railway, length)) <= set(found))
                    for group in groups:
                        if is_free(railway, group[0]):
                            self.assertNotEqual(self.order(railway, found, group[0]), 0)

    def order(self, railway, line, standing):
        head, tail = mark(railway, line, standing[0]), mark(railway, line, standing[1])
        return (tail > head) - (tail < head)

    def test_6_there_is_a_decision(self):
        for railway in RAILWAYS:
            for start, goal in pairs_of(railway):
                answer = decide(railway, start, goal)
                self.assertTrue(self.is_decision(railway, start, goal, answer))
                self.assertEqual(answer[0] == "way", goal in list(class_of(railway, start)))
                self.assertEqual(answer[0] == "way", leads(railway, start, goal))
                if answer[0] == "way":
                    self.assertLessEqual(len(answer[1]), 4 * railway.size * railway.size)

    def test_6_never_both_a_way_and_another_decision(self):
        for railway in FEW:
            stations = range(railway.size)
            lines = [railway.path(a, b) for a in stations for b in stations if a != b]
            others = [("divide", line) for line in lines] + [("clamp", a, b) for a in stations for b in stations]
            for start, goal in pairs_of(railway):
                found = any(self.is_decision(railway, start, goal, answer) for answer in others)
                self.assertIs(found, not leads(railway, start, goal))

    def test_7_passing_and_turning(self):
        for railway in RAILWAYS:
            for length in all_lengths(railway):
                self.assertEqual(trunk(railway, length) != (), length <= passing_length(railway))
                self.assertEqual(pivots(railway, length) != (), length <= turning_length(railway))
                for standing in standings(railway, length):
                    right = is_free(railway, standing) and length <= turning_length(railway)
                    self.assertIs(can_turn(railway, standing), right)
                    self.assertIs(leads(railway, standing, turned(railway, standing)), right)

    def test_8_parts_of_standings(self):
        for railway in FEW:
            for start, goal in pairs_of(railway):
                if leads(railway, start, goal):
                    for length in range(1, length_of(railway, start) + 1):
                        for part in (front_part, rear_part):
                            self.assertTrue(leads(railway, part(railway, start, length), part(railway, goal, length)))

    def test_8_a_further_station(self):
        for railway in FEW:
            for station in range(railway.size):
                other = extended(railway, station)
                for start, goal in pairs_of(railway):
                    if leads(railway, start, goal):
                        self.assertTrue(leads(other, start, goal))

    def test_9_halved_railways(self):
        for railway in FEW + [Railway(*spider(2, 2, 2)), Railway(*broom(4, 4))]:
            other = halved(railway)
            for start, goal in pairs_of(railway):
                self.assertEqual(length_of(other, start), 2 * length_of(railway, start))
                self.assertEqual(pocket(other, start), pocket(railway, start))
                self.assertIs(leads(other, start, goal), leads(railway, start, goal))

    def test_pockets_on_halved_railways(self):
        for railway in RAILWAYS:
            other = halved(railway)
            for length in all_lengths(railway):
                found = {pocket(other, standing) for standing in standings(railway, length)}
                self.assertEqual(found - {None}, set(pockets(railway, length)))
                # No further ones: behind the middle of a track the depth is odd.
                self.assertEqual(pockets(other, 2 * length), pockets(railway, length))

    def test_renamed_railways(self):
        for railway in RAILWAYS:
            order = tuple(random.Random(railway.size).sample(range(railway.size), railway.size))
            other = renamed(railway, order)
            for length in all_lengths(railway):
                names = sorted((order[u], order[v]) for u, v in pockets(railway, length))
                self.assertEqual(pockets(other, length), tuple(names))
                self.assertEqual(count_classes(other, length), count_classes(railway, length))
                self.assertEqual(count_free(other, length), count_free(railway, length))
                for standing in standings(railway, length):
                    moved = (order[standing[0]], order[standing[1]])
                    self.assertEqual(class_size(other, moved), class_size(railway, standing))
            self.assertEqual(Plan(other.tracks).diameter(), diameter(railway))


if __name__ == "__main__":
    unittest.main()
