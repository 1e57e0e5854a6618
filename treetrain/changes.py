"""Railways that are made from another one, which stays as it is."""

from treetrain.checks import check_station, is_station
from treetrain.errors import InvalidOrder, StillJoined, TooMany, TooShort
from treetrain.railways import Railway

# A railway of so many stations has 99 when it is halved.
MOST_HALVED = 50


def renamed(railway, order):
    """The railway in which each station has the number that the order has at its place."""
    if not _is_order(railway, order):
        raise InvalidOrder(order)
    return Railway.of(tuple([(order[one], order[other]) for one, other in railway.tracks]))


def extended(railway, station):
    """The railway with a further station as a neighbour of a station."""
    check_station(railway, station)
    if railway.size >= Railway.MOST_STATIONS:
        raise TooMany(Railway.MOST_STATIONS)
    return Railway.of(railway.tracks + ((station, railway.size),))


def shortened(railway):
    """The railway without its last station."""
    if railway.size < 2:
        raise TooShort(2)
    last = railway.size - 1
    if len(railway.neighbours(last)) > 1:
        raise StillJoined(last)
    return Railway.of(tuple([track for track in railway.tracks if last not in track]))


def halved(railway):
    """The railway with a further station in the middle of each track."""
    if railway.size > MOST_HALVED:
        raise TooMany(MOST_HALVED)
    tracks = []
    for index, (one, other) in enumerate(railway.tracks):
        middle = railway.size + index
        tracks.append((one, middle))
        tracks.append((other, middle))
    return Railway.of(tuple(tracks))


def _is_order(railway, value):
    """Tells whether a value is a tuple that contains every station once."""
    if not isinstance(value, tuple) or len(value) != railway.size:
        return False
    return all([is_station(railway, station) for station in value]) and len(set(value)) == railway.size
