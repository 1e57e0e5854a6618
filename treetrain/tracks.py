"""The tracks of a railway, as arguments and in texts, before they are a railway."""

from treetrain.checks import is_pair_of_stations
from treetrain.errors import InvalidText
from treetrain.lines import check_line_ends, check_word, number_at


def joined(groups, one, other):
    """The groups after a track joins those of two stations. A group is named by a number at each of its stations."""
    return [groups[one] if group == groups[other] else group for group in groups]


def first_wrong_track(tracks):
    """The index of the first track that is no pair of stations or closes a ring, or None."""
    size = len(tracks) + 1
    groups = list(range(size))
    for index, track in enumerate(tracks):
        if not is_pair_of_stations(track, size):
            return index
        one, other = track
        if groups[one] == groups[other]:
            return index
        groups = joined(groups, one, other)
    return None


def read_tracks(lines, most):
    """The tracks of the text of a railway of at most so many stations, which begins in the first line."""
    check_word(lines, 1, 1, "railway")
    size = number_at(lines, 1, 2, 1, most)
    check_line_ends(lines, 1, 2)
    groups = list(range(size))
    tracks = []
    last = (0, 0)
    for row in range(2, size + 1):
        one, other = track_at(lines, row, size, last)
        if groups[one] == groups[other]:
            raise InvalidText(row, 3)
        check_line_ends(lines, row, 3)
        groups = joined(groups, one, other)
        last = (one, other)
        tracks.append(last)
    return tuple(tracks)


def track_at(lines, row, size, last):
    """The track in a row, which comes after the last one in ascending order."""
    check_word(lines, row, 1, "track")
    one = number_at(lines, row, 2, last[0], size - 1)
    least = last[1] + 1 if one == last[0] else one + 1
    return one, number_at(lines, row, 3, least, size - 1)
