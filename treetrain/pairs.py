"""All pairs of stations of a railway at once: their distances, and the lengths for which they are pockets."""

from treetrain.depths import branch_depths
from treetrain.layers import layers


def distances_and_depths(railway):
    """For each pair of different stations their distance, and the depth behind the first one, seen from the other."""
    table = {}
    for station in range(railway.size):
        depths = branch_depths(railway, station)
        for near, _ in depths:
            # From all stations of a branch the same is seen behind the station: its other branches.
            depth = max([far for other, far in depths if other != near], default=0)
            for index, layer in enumerate(layers(railway, near, station)):
                for place in layer:
                    table[station, place] = (index + 1, depth)
    return table


def pockets_by_length(railway):
    """For each length that has pockets the ascending list of them."""
    table = distances_and_depths(railway)
    found = {}
    for one, other in sorted(table):
        distance, depth = table[one, other]
        # The slack of a pair grows with the length, so it is equal to the depths for one length only.
        if table[other, one][1] == depth:
            found.setdefault(distance + depth, []).append((one, other))
    return found
