"""The lines and words of texts. Rows and words are counted from 1, as in InvalidText."""

from treetrain.errors import InvalidText

MOST_DIGITS = 4


def lines_of(text):
    """The lines of a text, each as the list of its words."""
    if not isinstance(text, str):
        raise InvalidText(0, 0)
    return [line.split(" ") for line in text.split("\n")]


def is_numeral(word):
    """Tells whether a word is an integer as texts write it."""
    if len(word) > MOST_DIGITS or not word.isascii() or not word.isdigit():
        return False
    return word == "0" or not word.startswith("0")


def word_at(lines, row, word):
    """The word at a place; it is wrong if it is missing. The words of a row are read from the first one on."""
    if row > len(lines) or word > len(lines[row - 1]):
        raise InvalidText(row, word)
    return lines[row - 1][word - 1]


def check_word(lines, row, word, wanted):
    """Raises InvalidText if another word than the wanted one stands at a place."""
    if word_at(lines, row, word) != wanted:
        raise InvalidText(row, word)


def number_at(lines, row, word, least, greatest):
    """The integer at a place, which is from the least to the greatest one."""
    numeral = word_at(lines, row, word)
    if not is_numeral(numeral) or not least <= int(numeral) <= greatest:
        raise InvalidText(row, word)
    return int(numeral)


def check_line_ends(lines, row, count):
    """Raises InvalidText if a line has more words than the count."""
    if len(lines[row - 1]) > count:
        raise InvalidText(row, count + 1)


def check_text_ends(lines, count):
    """Raises InvalidText if a text has more lines than the count."""
    if len(lines) > count:
        raise InvalidText(count + 1, 1)
