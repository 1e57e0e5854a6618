"""Stations in layers, by their distance from one station."""


def layers(railway, station, barred):
    """The stations at the distance 0, 1, .. from a station, without the branch that the barred neighbour names."""
    found = []
    # No ring leads back, so it is enough to know where each station was entered from.
    layer = [(station, barred)]
    while layer:
        found.append([place for place, _ in layer])
        layer = [(near, place) for place, entered in layer for near in railway.neighbours(place) if near != entered]
    return found
