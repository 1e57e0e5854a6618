"""The classes of standings that lead to one another: their names, their members, and their numbers."""

from treetrain.checks import check_length
from treetrain.depths import longest_path
from treetrain.lengths import free_classes, passing_length, turning_length
from treetrain.pairs import pockets_by_length
from treetrain.search import standings_of_class


def pockets(railway, length):
    """The ascending tuple of all pockets for a length."""
    check_length(length)
    return tuple(pockets_by_length(railway).get(length, []))


def count_classes(railway, length):
    """The numbers of the classes of clamped and of free standings of a length."""
    # Each class of clamped standings has a pocket of its own.
    return len(pockets(railway, length)), _count_free_classes(railway, length)


def count_free(railway, length):
    """The number of free standings of a length."""
    check_length(length)
    count = _count_free_classes(railway, length)
    if count == 0:
        return 0
    # The longest path goes on behind the head of this standing for at least the length, so the standing is free.
    line = longest_path(railway)
    size = class_size(railway, (line[length], line[0]))
    # If there are two classes, exchanging head and tail exchanges them, so they are equally great.
    return count * size


def class_size(railway, standing):
    """The number of standings of the class of a standing."""
    return len(standings_of_class(railway, standing))


def class_of(railway, standing):
    """Yields the standings of the class of a standing, ascending."""
    for member in standings_of_class(railway, standing):
        yield member


def head_places(railway, standing):
    """The ascending tuple of the stations at which the head stands in the class of a standing."""
    return tuple(sorted({head for head, _ in standings_of_class(railway, standing)}))


def tail_places(railway, standing):
    """The ascending tuple of the stations at which the tail stands in the class of a standing."""
    return tuple(sorted({tail for _, tail in standings_of_class(railway, standing)}))


def _count_free_classes(railway, length):
    """The number of the classes of free standings of a length."""
    return free_classes(length, passing_length(railway), turning_length(railway))
