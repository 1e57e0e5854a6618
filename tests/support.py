"""What the tests share: railways to try, answers found in another way than the package does, and a look at errors."""

import random
import unittest
from itertools import product

from treetrain.railways import Railway

NO_INTEGERS = (None, True, False, "", "0", "1", (), (1,), [], [1], {}, {1: 1}, Railway.line(2))
NO_STANDINGS = (
    None, True, 1, "", "01", "0 1", (), [], {}, (0,), (0, 1, 2), [0, 1], [0], {0: 1}, Railway.line(2),
    (0, 0), (1, 1), (True, 0), (0, True), (False, 1), (1, False), (-1, 0), (0, -1), (0, 5), (5, 0), (0, 10 ** 49),
    (None, 0), (0, None), ("0", 1), (0, "1"), ((0, 1),), ((0,), 1), ([0], 1), ([0, 1], [1, 0]), ({}, {}),
)
# Each is wrong on a railway of five stations.
NO_STATIONS = NO_INTEGERS + (-1, 5, 6, 100, 10 ** 49, -(10 ** 49))
NO_LENGTHS = NO_INTEGERS + (0, -1, -(10 ** 49))


def all_trees(size):
    """The tracks of all railways of so many stations, each with a as the smaller station and ascending."""
    if size == 1:
        return [()]
    if size == 2:
        return [((0, 1),)]
    return [tree_of_code(code, size) for code in product(range(size), repeat=size - 2)]


def tree_of_code(code, size):
    """The tree with a Pruefer code."""
    left = list(code)
    unused = list(range(size))
    tracks = []
    while left:
        leaf = min(x for x in unused if x not in left)
        tracks.append(tuple(sorted((leaf, left[0]))))
        unused.remove(leaf)
        del left[0]
    tracks.append(tuple(unused))
    return tuple(sorted(tracks))


def some_trees(size, count, seed=7):
    """The tracks of some railways of so many stations, the same ones in each run."""
    chance = random.Random(seed)
    return [tree_of_code([chance.randrange(size) for _ in range(size - 2)], size) for _ in range(count)]


def small_trees():
    """The tracks of all railways of at most five stations, and of some greater ones."""
    trees = [tree for size in range(1, 6) for tree in all_trees(size)]
    return trees + some_trees(8, 10) + some_trees(13, 5)


def broom(handle, hairs):
    """The tracks of a line of stations with further neighbours at its last one."""
    line = tuple((k, k + 1) for k in range(handle - 1))
    return line + tuple((handle - 1, handle + k) for k in range(hairs))


def path_by_search(tracks, one, other):
    """The only path between two stations, by trying all ways that do not turn back."""
    ways = [(one,)]
    while ways:
        way = ways.pop()
        if way[-1] == other:
            return way
        for track in tracks:
            if way[-1] in track:
                near = track[0] + track[1] - way[-1]
                if near not in way:
                    ways.append(way + (near,))
    raise AssertionError("no path")


class Plan:
    """All paths of a railway, found by search."""

    def __init__(self, tracks):
        self.tracks = tracks
        self.size = len(tracks) + 1
        self.stations = range(self.size)
        self.paths = {(a, b): path_by_search(tracks, a, b) for a in self.stations for b in self.stations}

    def distance(self, one, other):
        return len(self.paths[one, other]) - 1

    def neighbours(self, station):
        return [x for x in self.stations if self.distance(x, station) == 1]

    def diameter(self):
        return max(len(path) - 1 for path in self.paths.values())

    def behind(self, station, seen_from):
        return tuple(x for x in self.stations if station in self.paths[seen_from, x])

    def depth_behind(self, station, seen_from):
        return max(self.distance(station, x) for x in self.behind(station, seen_from))

    def branch_depths(self, station):
        return tuple((q, 1 + self.depth_behind(q, station)) for q in self.neighbours(station))

    def standings(self, length):
        return [pair for pair in sorted(self.paths) if self.distance(*pair) == length]

    def possible_moves(self, standing):
        head, tail = standing
        body = self.paths[standing]
        heads = [("head", x) for x in self.neighbours(head) if x not in body]
        return heads + [("tail", x) for x in self.neighbours(tail) if x not in body]

    def moved(self, standing, move):
        body = self.paths[standing]
        if move[0] == "head":
            return move[1], body[-2]
        return body[1], move[1]


class Case(unittest.TestCase):
    """A test case that looks at errors closely."""

    def fails(self, wanted, function, *values, **named):
        """Asserts that a call raises the wanted error: its very class, with the very same fields."""
        with self.assertRaises(type(wanted)) as caught:
            function(*values, **named)
        self.assertIs(type(caught.exception), type(wanted))
        # 1 and True are equal, their texts are not.
        self.assertEqual(repr(vars(caught.exception)), repr(vars(wanted)))
