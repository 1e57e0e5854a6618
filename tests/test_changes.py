"""Renamed, extended, shortened and halved railways."""

import random
import unittest
from itertools import permutations

from tests.support import NO_STATIONS, Case, Plan, all_trees, broom, fives, shapes, small_trees, some_trees, spider
from treetrain.changes import extended, halved, renamed, shortened
from treetrain.errors import InvalidOrder, InvalidStation, StillJoined, TooMany, TooShort
from treetrain.railways import Railway

# Each is no order of five stations.
NO_ORDERS = (
    None, True, 5, "", "01234", (), [], {}, (0,), (0, 1, 2, 3), (0, 1, 2, 3, 4, 5), (1, 2, 3, 4, 5), (0, 1, 2, 3, 3),
    (0, 1, 2, 3, 4, 4), (0, 1, 2, 3, 4, 0, 1, 2, 3, 4), (0, 0, 1, 2, 3), (0, 1, 2, 3, -1), (4, 3, 2, 1, 5), (0, 1, 3, 4),
    (0, True, 2, 3, 4), (False, 1, 2, 3, 4), (True, False, 2, 3, 4), [0, 1, 2, 3, 4], [4, 3, 2, 1, 0],
    {0: 0, 1: 1, 2: 2, 3: 3, 4: 4}, (0, 1, 2, 3, None), (0, 1, 2, 3, "4"), (0, 1, 2, 3, (4,)), (0, 1, 2, 3, [4]),
    (0, 1, 2, 3, {}), ((0, 1, 2, 3, 4),), (0, 1, 2, 3, 10 ** 49), Railway.line(5), (0, 1, 2, 3, Railway()),
)


class Changes(Case):
    def unchanged(self, railway, tracks):
        """Asserts that a railway has these tracks, wherever it tells of them."""
        self.assertEqual((railway.size, railway.tracks), (len(tracks) + 1, tuple(sorted(tracks))))
        for station in range(railway.size):
            near = sorted([a + b - station for a, b in tracks if station in (a, b)])
            self.assertEqual(railway.neighbours(station), tuple(near))

    def is_railway(self, railway, tracks):
        """Asserts that a value is a railway with these tracks, in any order and direction."""
        self.assertIs(type(railway), Railway)
        self.unchanged(railway, [(min(track), max(track)) for track in tracks])


class Renamed(Changes):
    def test_all_orders_of_few_stations(self):
        for size in range(1, 5):
            for tracks in all_trees(size):
                railway = Railway(*tracks)
                for order in permutations(range(size)):
                    self.is_railway(renamed(railway, order), [(order[a], order[b]) for a, b in tracks])
                    self.unchanged(railway, tracks)

    def test_and_back_by_the_inverse_order(self):
        chance = random.Random(3)
        for tracks in small_trees() + some_trees(100, 3):
            railway = Railway(*tracks)
            order = tuple(chance.sample(range(railway.size), railway.size))
            inverse = tuple(order.index(x) for x in range(railway.size))
            self.unchanged(renamed(renamed(railway, order), inverse), tracks)
            self.unchanged(renamed(renamed(railway, inverse), order), tracks)

    def test_the_order_has_the_new_numbers(self):
        # The station 0 becomes 2, 1 becomes 0, and 2 becomes 1.
        self.assertEqual(renamed(Railway.line(3), (2, 0, 1)).tracks, ((0, 1), (0, 2)))
        self.assertEqual(renamed(Railway.line(4), (1, 3, 0, 2)).tracks, ((0, 2), (0, 3), (1, 3)))

    def test_one_and_hundred_stations(self):
        self.is_railway(renamed(Railway(), (0,)), ())
        self.is_railway(renamed(Railway.line(100), tuple(range(99, -1, -1))), Railway.line(100).tracks)
        self.fails(InvalidOrder(()), renamed, Railway(), ())
        self.fails(InvalidOrder((1,)), renamed, Railway(), (1,))
        self.fails(InvalidOrder((False,)), renamed, Railway(), (False,))

    def test_the_same_order_gives_a_new_railway(self):
        railway = Railway.line(5)
        self.assertIsNot(renamed(railway, (0, 1, 2, 3, 4)), railway)

    def test_wrong_orders(self):
        for railway in fives():
            for value in NO_ORDERS:
                with self.subTest(value=value):
                    self.fails(InvalidOrder(value), renamed, railway, value)
            self.assertEqual(railway.size, 5)

    def test_an_order_is_not_modified(self):
        order = [4, 3, 2, 1, 0]
        self.fails(InvalidOrder([4, 3, 2, 1, 0]), renamed, Railway.line(5), order)
        self.assertEqual(order, [4, 3, 2, 1, 0])

    def test_by_name(self):
        self.assertEqual(renamed(order=(1, 0, 2), railway=Railway.line(3)).tracks, ((0, 1), (0, 2)))


class Extended(Changes):
    def test_at_every_station(self):
        for tracks in small_trees():
            railway = Railway(*tracks)
            for station in range(railway.size):
                self.is_railway(extended(railway, station), tracks + ((station, railway.size),))
                self.unchanged(railway, tracks)

    def test_and_shortened_again(self):
        for tracks in small_trees() + some_trees(99, 2):
            railway = Railway(*tracks)
            for station in range(railway.size):
                self.unchanged(shortened(extended(railway, station)), tracks)

    def test_up_to_hundred_stations(self):
        for railway in (Railway.line(99), Railway.star(99)):
            self.is_railway(extended(railway, 98), railway.tracks + ((98, 99),))
        for railway in (Railway.line(100), Railway.star(100)):
            for station in (0, 50, 99):
                self.fails(TooMany(100), extended, railway, station)
            self.assertEqual(railway.size, 100)

    def test_wrong_stations(self):
        for railway in fives():
            for value in NO_STATIONS:
                with self.subTest(value=value):
                    self.fails(InvalidStation(value), extended, railway, value)

    def test_stations_are_looked_at_before_the_limit(self):
        for value in (100, -1, True, "0", None, [0]):
            self.fails(InvalidStation(value), extended, Railway.line(100), value)

    def test_one_station(self):
        self.is_railway(extended(Railway(), 0), ((0, 1),))
        self.fails(InvalidStation(1), extended, Railway(), 1)

    def test_by_name(self):
        self.assertEqual(extended(station=1, railway=Railway.line(2)).tracks, ((0, 1), (1, 2)))


class Shortened(Changes):
    def test_the_last_station(self):
        for tracks in small_trees() + some_trees(100, 4):
            if tracks:
                railway = Railway(*tracks)
                last = railway.size - 1
                rest = [track for track in tracks if last not in track]
                if len(rest) == len(tracks) - 1:
                    self.is_railway(shortened(railway), rest)
                else:
                    self.fails(StillJoined(last), shortened, railway)
                self.unchanged(railway, tracks)

    def test_one_and_two_stations(self):
        self.is_railway(shortened(Railway.line(2)), ())
        self.fails(TooShort(2), shortened, Railway())

    def test_a_last_station_with_several_neighbours(self):
        self.fails(StillJoined(2), shortened, Railway((0, 2), (1, 2)))
        self.fails(StillJoined(99), shortened, Railway(*[(k, 99) for k in range(99)]))

    def test_down_to_one_station(self):
        railway = Railway.star(100)
        for size in range(99, 0, -1):
            railway = shortened(railway)
            self.assertTrue(railway.is_same(Railway.star(size)))

    def test_by_name(self):
        self.assertEqual(shortened(railway=Railway.line(3)).tracks, ((0, 1),))


class Halved(Changes):
    def test_a_middle_for_each_track(self):
        for tracks in small_trees():
            railway = Railway(*reversed(tracks))
            found = halved(railway)
            middles = [(station, railway.size + k) for k, track in enumerate(tracks) for station in track]
            self.is_railway(found, middles)
            self.unchanged(railway, tracks)

    def test_distances_are_doubled(self):
        for tracks in shapes(1, 6) + some_trees(9, 4):
            plan, found = Plan(tracks), halved(Railway(*tracks))
            for one, other in plan.paths:
                self.assertEqual(found.distance(one, other), 2 * plan.distance(one, other))

    def test_the_tracks_count_in_ascending_order(self):
        railway = Railway((3, 2), (1, 2), (2, 0))
        self.assertEqual(halved(railway).tracks, ((0, 4), (1, 5), (2, 4), (2, 5), (2, 6), (3, 6)))

    def test_one_station(self):
        railway = Railway()
        self.is_railway(halved(railway), ())
        self.assertIsNot(halved(railway), railway)

    def test_fifty_stations(self):
        for tracks in some_trees(50, 2) + [spider(49), spider(*[1] * 49), broom(25, 25)]:
            self.assertEqual(halved(Railway(*tracks)).size, 99)

    def test_more_than_fifty_stations(self):
        for size in (51, 52, 99, 100):
            self.fails(TooMany(50), halved, Railway.line(size))
            self.fails(TooMany(50), halved, Railway.star(size))

    def test_by_name(self):
        self.assertEqual(halved(railway=Railway.line(2)).tracks, ((0, 2), (1, 2)))


if __name__ == "__main__":
    unittest.main()
