"""Ways from one standing to another one, and the fewest moves."""

from treetrain.deciding import common_length, reason_against
from treetrain.errors import NoWay, TooMany
from treetrain.search import least_way

MOST_SEARCHED = 40


def way(railway, start, goal):
    """Yields the moves of a way from the start to the goal."""
    _check_way(railway, start, goal)
    for move in least_way(railway, start, goal):
        yield move


def fewest_moves(railway, start, goal):
    """The least number of moves of a way."""
    return len(shortest_way(railway, start, goal))


def shortest_way(railway, start, goal):
    """The least tuple of the fewest moves that are a way."""
    common_length(railway, start, goal)
    if railway.size > MOST_SEARCHED:
        raise TooMany(MOST_SEARCHED)
    _check_way(railway, start, goal)
    return least_way(railway, start, goal)


def _check_way(railway, start, goal):
    """Raises NoWay if there is no way from the start to the goal."""
    reason = reason_against(railway, start, goal)
    if reason is not None:
        raise NoWay(reason)
