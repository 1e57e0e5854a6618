"""Questions about values, and the errors of the parameters that all modules have."""

from treetrain.errors import InvalidLength, InvalidStation


def is_integer(value):
    """Tells whether a value is an integer; True and False are none."""
    return isinstance(value, int) and not isinstance(value, bool)


def is_number_from(value, least, greatest):
    """Tells whether a value is an integer from the least to the greatest one."""
    return is_integer(value) and least <= value <= greatest


def is_pair_of_stations(value, size):
    """Tells whether a value is a pair of two different ones of so many stations."""
    if not isinstance(value, tuple) or len(value) != 2:
        return False
    one, other = value
    if not is_number_from(one, 0, size - 1) or not is_number_from(other, 0, size - 1):
        return False
    return one != other


def is_station(railway, value):
    """Tells whether a value is a station of the railway."""
    return is_number_from(value, 0, railway.size - 1)


def check_station(railway, station):
    """Raises InvalidStation if the value is not a station of the railway."""
    if not is_station(railway, station):
        raise InvalidStation(station)


def check_length(length):
    """Raises InvalidLength if the value is not a length."""
    if not is_integer(length) or length < 1:
        raise InvalidLength(length)
