"""What lies behind a station, the depths of branches, the trunk and the pivots."""

from treetrain.checks import check_length, check_station
from treetrain.errors import InvalidPair
from treetrain.layers import layers


def behind(railway, station, seen_from):
    """The ascending tuple of the stations behind a station, seen from another one."""
    found = _layers_behind(railway, station, seen_from)
    return tuple(sorted([place for layer in found for place in layer]))


def depth_behind(railway, station, seen_from):
    """The depth behind a station, seen from another one."""
    return len(_layers_behind(railway, station, seen_from)) - 1


def branch_depths(railway, station):
    """The ascending tuple of the pairs of a neighbour and the depth of the branch that it names."""
    check_station(railway, station)
    return tuple([(near, 1 + depth_behind(railway, near, station)) for near in railway.neighbours(station)])


def longest_path(railway):
    """One of the paths between two stations of the greatest distance."""
    # Among the stations, one that is farthest from any given one is an end of a longest path.
    end = layers(railway, 0, None)[-1][0]
    return railway.path(end, layers(railway, end, None)[-1][0])


def diameter(railway):
    """The greatest distance of two stations."""
    return len(longest_path(railway)) - 1


def deep_branches(railway, station, length):
    """The ascending tuple of the neighbours that name branches which are deep for a length."""
    check_station(railway, station)
    check_length(length)
    return tuple([near for near, depth in branch_depths(railway, station) if depth >= length])


def trunk(railway, length):
    """The ascending tuple of the stations with at least two deep branches."""
    return _stations_with_deep_branches(railway, length, 2)


def pivots(railway, length):
    """The ascending tuple of the stations with at least three deep branches."""
    return _stations_with_deep_branches(railway, length, 3)


def _layers_behind(railway, station, seen_from):
    """The layers of the stations behind a station, by their distance from it."""
    check_station(railway, station)
    check_station(railway, seen_from)
    if station == seen_from:
        raise InvalidPair((station, seen_from))
    return layers(railway, station, railway.path(station, seen_from)[1])


def _stations_with_deep_branches(railway, length, least):
    """The ascending tuple of the stations with at least so many deep branches."""
    check_length(length)
    stations = range(railway.size)
    return tuple([station for station in stations if len(deep_branches(railway, station, length)) >= least])
