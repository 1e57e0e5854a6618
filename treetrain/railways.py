"""Railways: stations that are joined by tracks without a ring."""

from treetrain.checks import check_station, is_number_from
from treetrain.errors import InvalidCount, InvalidTracks
from treetrain.lines import check_text_ends, lines_of
from treetrain.tracks import first_wrong_track, read_tracks


class Railway:
    """A railway with one station more than tracks."""

    MOST_STATIONS = 100

    def __init__(self, *tracks):
        if len(tracks) >= Railway.MOST_STATIONS:
            raise InvalidTracks(None)
        wrong = first_wrong_track(tracks)
        if wrong is not None:
            raise InvalidTracks(wrong)
        self._tracks = tuple(sorted([(min(track), max(track)) for track in tracks]))
        self._neighbours = _neighbours_of(self._tracks)
        self._above, self._levels = _places_below_first(self._neighbours)

    @classmethod
    def of(cls, tracks):
        """The railway with the tracks of a tuple."""
        if not isinstance(tracks, tuple):
            raise InvalidTracks(None)
        return cls(*tracks)

    @staticmethod
    def is_tracks(value):
        """Tells whether a value is a tuple of tracks that are a railway."""
        if not isinstance(value, tuple) or len(value) >= Railway.MOST_STATIONS:
            return False
        return first_wrong_track(value) is None

    @classmethod
    def line(cls, count):
        """The railway of so many stations with the tracks (0, 1), (1, 2), and so on."""
        _check_count(count)
        tracks = [(station, station + 1) for station in range(count - 1)]
        return cls(*tracks)

    @classmethod
    def star(cls, count):
        """The railway of so many stations with the tracks (0, 1), (0, 2), and so on."""
        _check_count(count)
        tracks = [(0, station) for station in range(1, count)]
        return cls(*tracks)

    @classmethod
    def read(cls, text):
        """The railway of a text."""
        lines = lines_of(text)
        tracks = read_tracks(lines, Railway.MOST_STATIONS)
        check_text_ends(lines, len(tracks) + 1)
        return cls(*tracks)

    @property
    def size(self):
        """The number of stations."""
        return len(self._neighbours)

    @property
    def tracks(self):
        """The ascending tuple of the tracks, each with the smaller station first."""
        return self._tracks

    def neighbours(self, station):
        """The ascending tuple of the neighbours of a station."""
        check_station(self, station)
        return self._neighbours[station]

    def distance(self, one, other):
        """The number of tracks between two stations."""
        return len(self.path(one, other)) - 1

    def path(self, one, other):
        """The stations on the path from one station to the other one."""
        check_station(self, one)
        check_station(self, other)
        front = [one]
        back = [other]
        while front[-1] != back[-1]:
            if self._levels[front[-1]] > self._levels[back[-1]]:
                front.append(self._above[front[-1]])
            else:
                back.append(self._above[back[-1]])
        back.pop()
        return tuple(front + back[::-1])

    def is_same(self, other):
        """Tells whether another value is a railway with the same tracks."""
        return isinstance(other, Railway) and self.tracks == other.tracks


def _check_count(count):
    """Raises InvalidCount if no railway has so many stations."""
    if not is_number_from(count, 1, Railway.MOST_STATIONS):
        raise InvalidCount(count)


def _neighbours_of(tracks):
    """For each station the ascending tuple of its neighbours."""
    rows = [[] for station in range(len(tracks) + 1)]
    for one, other in tracks:
        rows[one].append(other)
        rows[other].append(one)
    return [tuple(sorted(row)) for row in rows]


def _places_below_first(neighbours):
    """For each station its neighbour towards the station 0, and its distance from there."""
    above = [0 for station in neighbours]
    levels = [0 for station in neighbours]
    layer = [0]
    while layer:
        below = []
        for station in layer:
            for near in neighbours[station]:
                if near != above[station]:
                    above[near] = station
                    levels[near] = levels[station] + 1
                    below.append(near)
        layer = below
    return above, levels
