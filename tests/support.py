"""What the tests share: railways to try, answers found in another way than the package does, and a look at errors."""

import random
import unittest
from itertools import product

from treetrain.railways import Railway

NO_INTEGERS = (None, True, False, "", "0", "1", (), (1,), [], [1], {}, {1: 1}, Railway.line(2))
NO_STANDINGS = (
    None, True, 1, "", "01", "0 1", (), [], {}, (0,), (0, 1, 2), [0, 1], [0], {0: 1}, Railway.line(2),
    (0, 0), (1, 1), (True, 0), (0, True), (False, 1), (1, False), (-1, 0), (0, -1), (0, 5), (5, 0), (0, 10 ** 49),
    (None, 0), (0, None), ("0", 1), (0, "1"), ((0, 1),), ((0,), 1), ([0], 1), ([0, 1], [1, 0]), ({}, {}),
)
# Each of these and of NO_MOVES is wrong on a railway of five stations.
NO_STATIONS = NO_INTEGERS + (-1, 5, 6, 100, 10 ** 49, -(10 ** 49))
NO_LENGTHS = NO_INTEGERS + (0, -1, -(10 ** 49))
NO_MOVES = (
    None, True, 0, "", "head", "head 1", (), [], {}, ("head",), ("head", 1, 2), ["head", 1], {"head": 1}, (1, "head"),
    ("heads", 1), ("Head", 1), ("", 1), (None, 1), (0, 1), (True, 1), (("head",), 1), (["head"], 1), ({}, 1),
    ("head", True), ("tail", False), ("head", -1), ("tail", 5), ("head", 10 ** 49), ("head", None), ("tail", "1"),
    ("head", (1,)), ("tail", [1]), (("head", 1),), (("head", 1), ("tail", 2)), Railway.line(2), (Railway.line(2), 1),
)


def all_trees(size):
    """The tracks of all railways of so many stations, each with a as the smaller station and ascending."""
    if size == 1:
        return [()]
    if size == 2:
        return [((0, 1),)]
    return [tree_of_code(code, size) for code in product(range(size), repeat=size - 2)]


def tree_of_code(code, size):
    """The tree with a Pruefer code."""
    left = list(code)
    unused = list(range(size))
    tracks = []
    while left:
        leaf = min(x for x in unused if x not in left)
        tracks.append(tuple(sorted((leaf, left[0]))))
        unused.remove(leaf)
        del left[0]
    tracks.append(tuple(unused))
    return tuple(sorted(tracks))


def some_trees(size, count, seed=7):
    """The tracks of some railways of so many stations, the same ones in each run."""
    chance = random.Random(seed)
    return [tree_of_code([chance.randrange(size) for _ in range(size - 2)], size) for _ in range(count)]


def small_trees():
    """The tracks of all railways of at most five stations, and of some greater ones."""
    trees = [tree for size in range(1, 6) for tree in all_trees(size)]
    return trees + some_trees(8, 10) + some_trees(13, 5)


def shapes(least, most):
    """The tracks of one railway for each shape of so many stations: others differ in the numbers of the stations only."""
    level = [()]
    found = list(level) if least <= 1 else []
    for size in range(2, most + 1):
        grown = {}
        for tracks in level:
            for station in range(size - 1):
                tree = tracks + ((station, size - 1),)
                grown.setdefault(shape_of(tree), tree)
        level = list(grown.values())
        if size >= least:
            found += level
    return found


def shape_of(tracks):
    """A text that is the same for railways of one shape."""
    rows = [[] for _ in range(len(tracks) + 1)]
    for a, b in tracks:
        rows[a].append(b)
        rows[b].append(a)

    def text(station, above):
        return "(" + "".join(sorted(text(x, station) for x in rows[station] if x != above)) + ")"

    return min(text(station, None) for station in range(len(rows)))


def spider(*legs):
    """The tracks of lines of so many stations each, which begin at the station 0."""
    tracks = []
    for leg in legs:
        places = [0] + [len(tracks) + k + 1 for k in range(leg)]
        tracks += zip(places, places[1:])
    return tuple(tracks)


def fives():
    """A railway of five stations for each shape of such."""
    return [Railway(*tracks) for tracks in shapes(5, 5)]


def broom(handle, hairs):
    """The tracks of a line of stations with further neighbours at its last one."""
    line = tuple((k, k + 1) for k in range(handle - 1))
    return line + tuple((handle - 1, handle + k) for k in range(hairs))


def path_by_search(tracks, one, other):
    """The only path between two stations, by trying all ways that do not turn back."""
    ways = [(one,)]
    while ways:
        way = ways.pop()
        if way[-1] == other:
            return way
        for track in tracks:
            if way[-1] in track:
                near = track[0] + track[1] - way[-1]
                if near not in way:
                    ways.append(way + (near,))
    raise AssertionError("no path")


class Plan:
    """All paths of a railway, found by search."""

    def __init__(self, tracks):
        self.tracks = tracks
        self.size = len(tracks) + 1
        self.stations = range(self.size)
        self.paths = {(a, b): path_by_search(tracks, a, b) for a in self.stations for b in self.stations}
        self.depths = {(a, b): self.depth_behind(a, b) for a, b in self.paths if a != b}

    def distance(self, one, other):
        return len(self.paths[one, other]) - 1

    def neighbours(self, station):
        return [x for x in self.stations if self.distance(x, station) == 1]

    def diameter(self):
        return max(len(path) - 1 for path in self.paths.values())

    def behind(self, station, seen_from):
        return tuple(x for x in self.stations if station in self.paths[seen_from, x])

    def depth_behind(self, station, seen_from):
        return max(self.distance(station, x) for x in self.behind(station, seen_from))

    def branch_depths(self, station):
        return tuple((q, 1 + self.depth_behind(q, station)) for q in self.neighbours(station))

    def standings(self, length):
        return [pair for pair in sorted(self.paths) if self.distance(*pair) == length]

    def possible_moves(self, standing):
        head, tail = standing
        body = self.paths[standing]
        heads = [("head", x) for x in self.neighbours(head) if x not in body]
        return heads + [("tail", x) for x in self.neighbours(tail) if x not in body]

    def moved(self, standing, move):
        body = self.paths[standing]
        if move[0] == "head":
            return move[1], body[-2]
        return body[1], move[1]

    def lengths(self):
        return range(1, self.diameter() + 1)

    def slack(self, length, pair):
        return length - self.distance(*pair)

    def is_clamp(self, length, pair):
        u, v = pair
        slack = self.slack(length, pair)
        return slack >= 0 and self.depths[u, v] <= slack and self.depths[v, u] <= slack

    def is_pocket(self, length, pair):
        u, v = pair
        return self.is_clamp(length, pair) and self.depths[u, v] == self.depths[v, u] == self.slack(length, pair)

    def has(self, standing, pair):
        body = self.paths[standing]
        return pair[0] in body and pair[1] in body and body.index(pair[0]) <= body.index(pair[1])

    def clamps(self, standing):
        pairs = [(u, v) for u, v in sorted(self.paths) if u != v and self.has(standing, (u, v))]
        return tuple(pair for pair in pairs if self.is_clamp(self.distance(*standing), pair))

    def lines(self):
        return [path for path in self.paths.values() if len(path) > 1]

    def is_divide(self, length, line):
        return all(depth < length for p in line for q, depth in self.branch_depths(p) if q not in line)

    def mark(self, line, station):
        return min(range(len(line)), key=lambda index: self.distance(line[index], station))

    def trunk(self, length, least=2):
        deep = [sum(depth >= length for _, depth in self.branch_depths(p)) for p in self.stations]
        return [p for p in self.stations if deep[p] >= least]

    def least_ways(self, start):
        """For each standing that the start leads to, the least tuple of the fewest moves, by trying all moves."""
        ways = {start: ()}
        layer = [start]
        while layer:
            found = {}
            for standing in layer:
                for move in self.possible_moves(standing):
                    goal = self.moved(standing, move)
                    if goal not in ways:
                        found.setdefault(goal, []).append(ways[standing] + (move,))
            layer = list(found)
            ways.update((goal, min(found[goal])) for goal in layer)
        return ways

    def pairs_of_standings(self):
        """All pairs of standings of one length: the length, the start, the goal, and the least ways from the start."""
        for length in self.lengths():
            found = self.standings(length)
            for start in found:
                ways = self.least_ways(start)
                for goal in found:
                    yield length, start, goal, ways

    def classes(self, length):
        """The classes of a length, each as a list of standings, by trying all moves."""
        left = self.standings(length)
        found = []
        while left:
            group = sorted(self.least_ways(left[0]))
            found.append(group)
            left = [standing for standing in left if standing not in group]
        return found


class Case(unittest.TestCase):
    """A test case that looks at errors closely."""

    def fails(self, wanted, function, *values, **named):
        """Asserts that a call raises the wanted error: its very class, with the very same fields."""
        with self.assertRaises(type(wanted)) as caught:
            function(*values, **named)
        self.assertIs(type(caught.exception), type(wanted))
        # 1 and True are equal, their texts are not.
        self.assertEqual(repr(vars(caught.exception)), repr(vars(wanted)))

    def leads_along(self, plan, start, goal, moves):
        """Asserts that moves are a way from the start to the goal, and not too many."""
        self.assertLessEqual(len(moves), 4 * plan.size * plan.size)
        standing = start
        for move in moves:
            self.assertIn(move, plan.possible_moves(standing))
            standing = plan.moved(standing, move)
        self.assertEqual(standing, goal)
