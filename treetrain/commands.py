"""The commands of a desk, as they are written."""

from treetrain.lines import is_numeral
from treetrain.standings import ENDS

# The numbers of the integers behind the words of commands. The commands of LISTS have pairs behind them instead.
COUNTS = {
    "place": 2, "head": 1, "tail": 1, "undo": 0, "couple": 1, "uncouple": 0, "show": 0, "body": 0, "steps": 0,
    "class": 0, "to": 2, "turn": 0, "lengths": 0, "count": 1, "save": 0,
}
LISTS = ("railway", "run")


def read_command(value):
    """The word of a command, and the tuple of the integers or pairs behind it; None if the value is no command."""
    if not isinstance(value, str):
        return None
    word, *rest = value.split(" ")
    if word in LISTS:
        return _read_list(word, rest)
    if COUNTS.get(word) != len(rest) or not _are_numerals(rest):
        return None
    return word, tuple([int(numeral) for numeral in rest])


def _read_list(word, rest):
    """The word of a command with a list of at least one pair, and the tuple of the pairs; None if that is not there."""
    ones, others, slashes = rest[0::3], rest[1::3], rest[2::3]
    if len(rest) % 3 != 2 or not all([sign == "/" for sign in slashes]) or not _are_numerals(others):
        return None
    if word == "run":
        if not all([end in ENDS for end in ones]):
            return None
        return word, tuple([(end, int(numeral)) for end, numeral in zip(ones, others)])
    if not _are_numerals(ones):
        return None
    return word, tuple([(int(one), int(other)) for one, other in zip(ones, others)])


def _are_numerals(words):
    """Tells whether all words are integers as texts write them."""
    return all([is_numeral(word) for word in words])
