"""Lines, the marks of stations on them, and divides, on which a train cannot turn."""

from treetrain.checks import check_length, check_station, is_station
from treetrain.depths import branch_depths, longest_path
from treetrain.errors import InvalidLine


def is_line(railway, value):
    """Tells whether a value is a path of at least two stations, as a tuple."""
    if not isinstance(value, tuple) or len(value) < 2:
        return False
    if not all([is_station(railway, station) for station in value]):
        return False
    return value == railway.path(value[0], value[-1])


def is_divide(railway, length, value):
    """Tells whether a value is a divide for a length."""
    check_length(length)
    if not is_line(railway, value):
        return False
    for station in value:
        for near, depth in branch_depths(railway, station):
            if near not in value and depth >= length:
                return False
    return True


def mark(railway, line, station):
    """The index of the station of a line that is nearest to a station."""
    if not is_line(railway, line):
        raise InvalidLine(line)
    check_station(railway, station)
    # The path from the first station of the line stays on the line until the nearest one.
    return len([place for place in railway.path(line[0], station) if place in line]) - 1


def find_divide(railway, length):
    """A divide that contains the trunk, or None if the trunk is empty or there is a pivot."""
    check_length(length)
    line = longest_path(railway)
    if len(line) <= 2 * length:
        return None
    # Both ends of a longest path are as far from a station on it as anything that branches off there.
    # So a deep branch beside the path makes a pivot, and without a pivot the trunk is on the path.
    # A standing with equal marks is held where the branches beside a divide are not deep, so it is not free.
    return line if is_divide(railway, length, line) else None
