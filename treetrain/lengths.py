"""The longest trains that can pass and turn round, and what there is of each length."""

from treetrain.climbing import is_free
from treetrain.depths import branch_depths, diameter
from treetrain.pairs import distances_and_depths, pockets_by_length
from treetrain.standings import length_of


def passing_length(railway):
    """The greatest length with a trunk that is not empty, or 0."""
    return diameter(railway) // 2


def turning_length(railway):
    """The greatest length for which there is a pivot, or 0."""
    return max([_third_depth(railway, station) for station in range(railway.size)])


def can_turn(railway, standing):
    """Tells whether a standing leads to the one with head and tail exchanged."""
    return length_of(railway, standing) <= turning_length(railway) and is_free(railway, standing)


def length_rows(railway):
    """Yields the length, the number of standings, of clamped classes and of free classes, for each length."""
    table = distances_and_depths(railway)
    distances = [distance for distance, _ in table.values()]
    pockets = pockets_by_length(railway)
    passing = passing_length(railway)
    turning = turning_length(railway)
    for length in range(1, diameter(railway) + 1):
        free = free_classes(length, passing, turning)
        yield length, distances.count(length), len(pockets.get(length, [])), free


def free_classes(length, passing, turning):
    """The number of classes of free standings of a length on a railway with these two lengths."""
    if length > passing:
        return 0
    return 1 if length <= turning else 2


def _third_depth(railway, station):
    """The depth of the third deepest branch of a station, or 0."""
    depths = sorted([depth for _, depth in branch_depths(railway, station)], reverse=True)
    return depths[2] if len(depths) > 2 else 0
