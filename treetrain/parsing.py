"""The readers of the texts of railways, standings, moves and trains."""

from treetrain.errors import Blocked, InvalidText
from treetrain.lines import check_line_ends, check_text_ends, check_word, lines_of, number_at, word_at
from treetrain.railways import Railway
from treetrain.standings import ENDS
from treetrain.tracks import read_tracks
from treetrain.trains import Train


def read_railway(text):
    """The railway of a text."""
    return Railway.read(text)


def read_standing(railway, text):
    """The standing of a text."""
    lines = lines_of(text)
    standing = _standing_at(railway, lines, 1, 1)
    check_text_ends(lines, 1)
    return standing


def read_moves(railway, text):
    """The tuple of the moves of a text."""
    # The text of no moves has no lines, but splitting it gives one.
    if text == "":
        return ()
    lines = lines_of(text)
    return tuple([_move_at(railway, lines, index + 1) for index in range(len(lines))])


def read_train(text):
    """The train of a text, which has made the steps of the text."""
    lines = lines_of(text)
    railway = Railway.of(read_tracks(lines, Railway.MOST_STATIONS))
    row = railway.size + 1
    check_word(lines, row, 1, "train")
    head, tail = _standing_at(railway, lines, row, 2)
    train = Train(railway, head, tail)
    for step_row in range(row + 1, len(lines) + 1):
        _make_step(train, lines, step_row)
    return train


def _standing_at(railway, lines, row, word):
    """The standing in a row, with the head at this word; the row ends behind it."""
    head = number_at(lines, row, word, 0, railway.size - 1)
    tail = number_at(lines, row, word + 1, 0, railway.size - 1)
    if head == tail:
        raise InvalidText(row, word + 1)
    check_line_ends(lines, row, word + 1)
    return head, tail


def _move_at(railway, lines, row):
    """The move in a row."""
    end = word_at(lines, row, 1)
    if end not in ENDS:
        raise InvalidText(row, 1)
    station = number_at(lines, row, 2, 0, railway.size - 1)
    check_line_ends(lines, row, 2)
    return end, station


def _make_step(train, lines, row):
    """Makes the step in a row with a train."""
    try:
        train.run(_move_at(train.railway, lines, row))
    except Blocked:
        raise InvalidText(row, 2) from None
