"""The class Railway, without its texts."""

import unittest

from tests.support import NO_INTEGERS, NO_STATIONS, Case, Plan, all_trees, broom, small_trees, some_trees
from treetrain.errors import InvalidCount, InvalidStation, InvalidTracks
from treetrain.railways import Railway

LINE_OF_100 = tuple((k, k + 1) for k in range(99))
NO_TRACKS = (
    None, True, 0, 1, "", "01", "0 1", (), (0,), (0, 1, 2), [0, 1], {0: 1}, {}, (0, 0), (1, 1), (0, True), (True, 0),
    (False, 1), (-1, 0), (0, -1), (0, 4), (4, 0), (0, 10 ** 49), ("0", "1"), (0, None), ((0, 1), (1, 2)), ([0], 1),
)


class Making(Case):
    def test_one_station(self):
        for railway in (Railway(), Railway.of(())):
            self.assertEqual((railway.size, railway.tracks), (1, ()))
            self.assertEqual(railway.neighbours(0), ())
            self.assertEqual((railway.path(0, 0), railway.distance(0, 0)), ((0,), 0))

    def test_two_stations(self):
        for railway in (Railway((0, 1)), Railway((1, 0)), Railway.of(((1, 0),))):
            self.assertEqual((railway.size, railway.tracks), (2, ((0, 1),)))
            self.assertEqual((railway.neighbours(0), railway.neighbours(1)), ((1,), (0,)))
            self.assertEqual((railway.path(0, 1), railway.path(1, 0)), ((0, 1), (1, 0)))

    def test_hundred_stations(self):
        railway = Railway(*LINE_OF_100)
        self.assertEqual((railway.size, railway.tracks), (100, LINE_OF_100))
        self.assertEqual(railway.path(99, 0), tuple(range(99, -1, -1)))
        self.assertEqual(Railway.of(LINE_OF_100).tracks, LINE_OF_100)

    def test_more_than_99_tracks(self):
        hundred = LINE_OF_100 + ((99, 100),)
        self.fails(InvalidTracks(None), Railway, *hundred)
        self.fails(InvalidTracks(None), Railway.of, hundred)
        self.assertFalse(Railway.is_tracks(hundred))
        # The number of the tracks is looked at before the tracks.
        self.fails(InvalidTracks(None), Railway, *([None] * 100))
        self.fails(InvalidTracks(None), Railway.of, (None,) * 100)
        self.fails(InvalidTracks(0), Railway, *([None] * 99))
        self.fails(InvalidTracks(None), Railway, *([(0, 1)] * 5000))

    def test_all_small_railways(self):
        for tracks in small_trees():
            railway = Railway(*tracks)
            self.assertEqual((railway.size, railway.tracks), (len(tracks) + 1, tracks))
            self.assertEqual(Railway.of(tracks).tracks, tracks)
            self.assertTrue(Railway.is_tracks(tracks))

    def test_other_orders_and_directions(self):
        for tracks in small_trees():
            back = tuple((b, a) for a, b in reversed(tracks))
            mixed = tuple(track if k % 2 else track[::-1] for k, track in enumerate(tracks[1:] + tracks[:1]))
            for other in (back, mixed):
                self.assertTrue(Railway.is_tracks(other))
                self.assertEqual(Railway(*other).tracks, tracks)
                self.assertEqual(Railway.of(other).tracks, tracks)

    def test_tracks_are_tuples_of_plain_pairs(self):
        tracks = Railway((2, 1), (0, 2)).tracks
        self.assertIs(type(tracks), tuple)
        self.assertEqual([type(track) for track in tracks], [tuple, tuple])

    def test_a_wrong_track(self):
        for wrong in NO_TRACKS:
            for place, tracks in enumerate([
                (wrong, (1, 2), (2, 3)), ((0, 1), wrong, (2, 3)), ((0, 1), (1, 2), wrong),
            ]):
                with self.subTest(wrong=wrong, place=place):
                    self.fails(InvalidTracks(place), Railway, *tracks)
                    self.fails(InvalidTracks(place), Railway.of, tracks)
                    self.assertIs(Railway.is_tracks(tracks), False)

    def test_the_first_wrong_track_is_told(self):
        self.fails(InvalidTracks(0), Railway, (0, 0), (0, 1), (0, 1))
        self.fails(InvalidTracks(1), Railway, (0, 1), (1, 0), None)
        self.fails(InvalidTracks(1), Railway, (0, 1), None, (1, 0))
        self.fails(InvalidTracks(2), Railway, (0, 1), (1, 2), (2, 0), (9, 9))

    def test_rings(self):
        self.fails(InvalidTracks(2), Railway, (0, 1), (1, 2), (2, 0))
        self.fails(InvalidTracks(2), Railway, (0, 1), (1, 2), (0, 2), (3, 4))
        self.fails(InvalidTracks(3), Railway, (0, 1), (2, 3), (1, 2), (3, 0))
        self.fails(InvalidTracks(4), Railway, (5, 0), (0, 1), (3, 4), (1, 3), (5, 4))

    def test_a_track_that_occurs_before(self):
        self.fails(InvalidTracks(1), Railway, (0, 1), (0, 1))
        self.fails(InvalidTracks(1), Railway, (0, 1), (1, 0))
        self.fails(InvalidTracks(2), Railway, (0, 1), (1, 2), (2, 1))

    def test_every_set_of_tracks_of_four_stations(self):
        pairs = [(a, b) for a in range(4) for b in range(4)]
        trees = all_trees(4)
        right = 0
        for tracks in ((p, q, r) for p in pairs for q in pairs for r in pairs):
            tree = tuple(sorted(tuple(sorted(track)) for track in tracks)) in trees
            self.assertIs(Railway.is_tracks(tracks), tree)
            right += tree
        self.assertEqual(right, 16 * 6 * 8)

    def test_a_station_out_of_range_depends_on_the_number_of_tracks(self):
        self.assertTrue(Railway.is_tracks(((0, 2), (2, 1))))
        self.fails(InvalidTracks(0), Railway, (0, 2))
        self.fails(InvalidTracks(1), Railway, (0, 2), (2, 3))

    def test_of_takes_a_tuple_only(self):
        for value in (None, True, 0, 1, "", "01", [], [(0, 1)], [[0, 1]], {}, {(0, 1): 1}, Railway()):
            with self.subTest(value=value):
                self.fails(InvalidTracks(None), Railway.of, value)
                self.assertIs(Railway.is_tracks(value), False)
        self.fails(InvalidTracks(0), Railway.of, ([0, 1],))
        self.fails(InvalidTracks(0), Railway.of, (0, 1))

    def test_the_list_of_tracks_is_not_kept(self):
        tracks = [(1, 0), (1, 2)]
        railway = Railway(*tracks)
        tracks.append((2, 3))
        tracks[0] = None
        self.assertEqual((railway.size, railway.tracks), (3, ((0, 1), (1, 2))))

    def test_most_stations(self):
        self.assertEqual(Railway.MOST_STATIONS, 100)
        self.assertEqual(Railway().MOST_STATIONS, 100)

    def test_by_name(self):
        self.assertEqual(Railway.of(tracks=((1, 0),)).tracks, ((0, 1),))
        self.assertTrue(Railway.is_tracks(value=((1, 0),)))
        self.fails(InvalidTracks(0), Railway.of, tracks=((1, 1),))

    def test_methods_off_an_object(self):
        self.assertEqual(Railway().of(((0, 1),)).size, 2)
        self.assertTrue(Railway().is_tracks(()))
        self.assertEqual(Railway().line(3).size, 3)


class LinesAndStars(Case):
    def test_lines(self):
        for count in (1, 2, 3, 7, 99, 100):
            railway = Railway.line(count)
            self.assertEqual(railway.size, count)
            self.assertEqual(railway.tracks, tuple((k, k + 1) for k in range(count - 1)))
            self.assertEqual(railway.path(0, count - 1), tuple(range(count)))

    def test_stars(self):
        for count in (1, 2, 3, 7, 99, 100):
            railway = Railway.star(count)
            self.assertEqual(railway.size, count)
            self.assertEqual(railway.tracks, tuple((0, k) for k in range(1, count)))
            self.assertEqual(railway.neighbours(0), tuple(range(1, count)))

    def test_wrong_counts(self):
        for count in NO_INTEGERS + (0, -1, 101, 1000, 10 ** 49, -(10 ** 49)):
            with self.subTest(count=count):
                self.fails(InvalidCount(count), Railway.line, count)
                self.fails(InvalidCount(count), Railway.star, count)

    def test_by_name(self):
        self.assertEqual(Railway.line(count=3).tracks, ((0, 1), (1, 2)))
        self.assertEqual(Railway.star(count=3).tracks, ((0, 1), (0, 2)))
        self.fails(InvalidCount(101), Railway.line, count=101)
        self.fails(InvalidCount(0), Railway.star, count=0)


class Places(Case):
    def test_neighbours_paths_and_distances(self):
        for tracks in small_trees() + [broom(6, 4)]:
            plan = Plan(tracks)
            railway = Railway(*tracks)
            for one in plan.stations:
                self.assertEqual(railway.neighbours(one), tuple(plan.neighbours(one)))
                for other in plan.stations:
                    self.assertEqual(railway.path(one, other), plan.paths[one, other])
                    self.assertEqual(railway.distance(one, other), plan.distance(one, other))
                    self.assertEqual(railway.path(other, one), railway.path(one, other)[::-1])

    def test_great_railways(self):
        for tracks in some_trees(100, 2) + [broom(50, 50)]:
            railway = Railway(*tracks[::-1])
            self.assertEqual(railway.tracks, tracks)
            for one in range(0, 100, 9):
                near = tuple(sorted(sum(track) - one for track in tracks if one in track))
                self.assertEqual(railway.neighbours(one), near)
                for other in range(100):
                    path = railway.path(one, other)
                    self.assertEqual((path[0], path[-1]), (one, other))
                    self.assertEqual(len(set(path)), len(path))
                    for a, b in zip(path, path[1:]):
                        self.assertIn((min(a, b), max(a, b)), tracks)

    def test_a_station_and_itself(self):
        railway = Railway((0, 1), (3, 1), (1, 2))
        for station in range(4):
            self.assertEqual(railway.path(station, station), (station,))
            self.assertEqual(railway.distance(station, station), 0)

    def test_results_are_tuples(self):
        railway = Railway.star(4)
        self.assertIs(type(railway.neighbours(0)), tuple)
        self.assertIs(type(railway.path(1, 2)), tuple)
        self.assertIs(type(railway.distance(1, 2)), int)

    def test_wrong_stations(self):
        railway = Railway.star(5)
        for wrong in NO_STATIONS:
            with self.subTest(wrong=wrong):
                self.fails(InvalidStation(wrong), railway.neighbours, wrong)
                for function in (railway.path, railway.distance):
                    self.fails(InvalidStation(wrong), function, wrong, 0)
                    self.fails(InvalidStation(wrong), function, 0, wrong)
                    self.fails(InvalidStation(wrong), function, wrong, wrong)

    def test_the_first_wrong_station_is_told(self):
        railway = Railway.star(5)
        for function in (railway.path, railway.distance):
            self.fails(InvalidStation(5), function, 5, -1)
            self.fails(InvalidStation(-1), function, -1, 5)
            self.fails(InvalidStation(True), function, True, None)

    def test_by_name(self):
        railway = Railway.line(4)
        self.assertEqual(railway.neighbours(station=1), (0, 2))
        self.assertEqual(railway.path(other=0, one=2), (2, 1, 0))
        self.assertEqual(railway.distance(other=0, one=2), 2)
        self.fails(InvalidStation(4), railway.distance, other=5, one=4)

    def test_properties_cannot_be_assigned(self):
        railway = Railway.line(4)
        with self.assertRaises(AttributeError):
            railway.size = 3
        with self.assertRaises(AttributeError):
            railway.tracks = ()
        self.assertEqual((railway.size, railway.tracks), (4, ((0, 1), (1, 2), (2, 3))))


class Sameness(Case):
    def test_the_same_tracks(self):
        railway = Railway((0, 1), (1, 2), (1, 3))
        for other in (railway, Railway((0, 1), (1, 2), (1, 3)), Railway((3, 1), (2, 1), (1, 0))):
            self.assertIs(railway.is_same(other), True)
            self.assertIs(other.is_same(railway), True)
        self.assertIs(Railway().is_same(Railway.line(1)), True)

    def test_other_tracks(self):
        railways = [Railway(*tracks) for size in range(1, 5) for tracks in all_trees(size)]
        for one in range(len(railways)):
            for other in range(len(railways)):
                self.assertIs(railways[one].is_same(railways[other]), one == other)

    def test_no_railway(self):
        railway = Railway((0, 1))
        for other in (None, True, 1, 2, "", "railway 2\ntrack 0 1", ((0, 1),), [(0, 1)], {}, (railway,), [railway]):
            self.assertIs(railway.is_same(other), False)

    def test_by_name(self):
        self.assertIs(Railway().is_same(other=Railway()), True)
        self.assertIs(Railway().is_same(other=None), False)


if __name__ == "__main__":
    unittest.main()
