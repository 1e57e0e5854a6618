"""Railway.read and the texts of railways."""

import random
import unittest

from tests.support import Case, all_trees, broom, small_trees, some_trees
from treetrain.errors import InvalidText
from treetrain.railways import Railway

# Text, row and word of what is wrong first.
WRONG = [
    ("", 1, 1), ("\n", 1, 1), (" ", 1, 1), ("x", 1, 1), ("Railway 1", 1, 1), ("railways 1", 1, 1), ("railway1", 1, 1),
    (" railway 1", 1, 1), ("track 0 1", 1, 1), ("\nrailway 1", 1, 1), ("railwa", 1, 1), ("1 railway", 1, 1),
    ("railway", 1, 2), ("railway ", 1, 2), ("railway  1", 1, 2), ("railway\n", 1, 2), ("railway 0", 1, 2),
    ("railway 101", 1, 2), ("railway 1000", 1, 2), ("railway 9999", 1, 2), ("railway 10000", 1, 2),
    ("railway 01", 1, 2), ("railway 00", 1, 2), ("railway 0001", 1, 2), ("railway 00001", 1, 2), ("railway -1", 1, 2),
    ("railway +1", 1, 2), ("railway one", 1, 2), ("railway 1.", 1, 2), ("railway 1_0", 1, 2), ("railway 0x1", 1, 2),
    ("railway " + "1" * 5000, 1, 2), ("railway 0 x", 1, 2), ("railway x 1", 1, 2), ("railway 0\ntrack 0 1", 1, 2),
    ("railway 1 ", 1, 3), ("railway 1 1", 1, 3), ("railway 2 \ntrack 0 1", 1, 3), ("railway 3 x y", 1, 3),
    ("railway 1\n", 2, 1), ("railway 1\n ", 2, 1), ("railway 1\ntrack 0 1", 2, 1), ("railway 1\n\n", 2, 1),
    ("railway 2", 2, 1), ("railway 2\n", 2, 1), ("railway 2\n\n", 2, 1), ("railway 2\nrailway 2", 2, 1),
    ("railway 2\n track 0 1", 2, 1), ("railway 2\nTrack 0 1", 2, 1), ("railway 2\n0 1", 2, 1), ("railway 100", 2, 1),
    ("railway 2\ntrack", 2, 2), ("railway 2\ntrack ", 2, 2), ("railway 2\ntrack  0 1", 2, 2),
    ("railway 2\ntrack 2 3", 2, 2), ("railway 2\ntrack 00 1", 2, 2), ("railway 2\ntrack x y", 2, 2),
    ("railway 2\ntrack -1 0", 2, 2), ("railway 2\n\ntrack 0 1", 2, 1), ("railway 2\ntrack 0,1", 2, 2),
    ("railway 2\ntrack 0", 2, 3), ("railway 2\ntrack 0 ", 2, 3), ("railway 2\ntrack 0  1", 2, 3),
    ("railway 2\ntrack 0 0", 2, 3), ("railway 2\ntrack 1 0", 2, 3), ("railway 2\ntrack 1 1", 2, 3),
    ("railway 2\ntrack 1", 2, 3), ("railway 2\ntrack 0 2", 2, 3), ("railway 2\ntrack 0 01", 2, 3),
    ("railway 2\ntrack 0 x 1", 2, 3), ("railway 3\ntrack 2 1\ntrack 0 1", 2, 3), ("railway 2\ntrack 1 2", 2, 3),
    ("railway 2\ntrack 0 1 ", 2, 4), ("railway 2\ntrack 0 1 2", 2, 4), ("railway 2\ntrack 0 1 \n", 2, 4),
    ("railway 2\ntrack 0 1\n", 3, 1), ("railway 2\ntrack 0 1\ntrack 0 1", 3, 1), ("railway 2\ntrack 0 1\n\n", 3, 1),
    ("railway 2\ntrack 0 1\ntrain 0 1", 3, 1), ("railway 2\ntrack 0 1\n x y z", 3, 1),
    ("railway 3\ntrack 0 1", 3, 1), ("railway 3\ntrack 0 1\n", 3, 1), ("railway 3\ntrack 0 1\ntrack", 3, 2),
    ("railway 3\ntrack 1 2\ntrack 0 1", 3, 2), ("railway 3\ntrack 1 2\ntrack 0 2", 3, 2),
    ("railway 3\ntrack 0 1\ntrack 3 4", 3, 2), ("railway 3\ntrack 1 2\ntrack 0", 3, 2),
    ("railway 3\ntrack 0 1\ntrack 0 1", 3, 3), ("railway 3\ntrack 0 2\ntrack 0 1", 3, 3),
    ("railway 3\ntrack 0 2\ntrack 0 2", 3, 3), ("railway 3\ntrack 0 1\ntrack 1 1", 3, 3),
    ("railway 3\ntrack 0 1\ntrack 1 0", 3, 3), ("railway 3\ntrack 0 1\ntrack 2 1", 3, 3),
    ("railway 3\ntrack 0 1\ntrack 1 3", 3, 3), ("railway 3\ntrack 0 1\ntrack 2", 3, 3),
    ("railway 3\ntrack 0 1\ntrack 0 1 9", 3, 3), ("railway 3\ntrack 0 1\ntrack 0 2 ", 3, 4),
    ("railway 4\ntrack 0 1\ntrack 0 2\ntrack 1 2", 4, 3), ("railway 4\ntrack 0 1\ntrack 0 2\ntrack 1 2 3", 4, 3),
    ("railway 4\ntrack 0 1\ntrack 0 3\ntrack 1 3\nx", 4, 3), ("railway 4\ntrack 0 1\ntrack 0 2\ntrack 1 3\nx", 5, 1),
    ("railway 5\ntrack 0 2\ntrack 0 4\ntrack 1 2\ntrack 1 4", 5, 3), ("railway 5\ntrack 0 2\ntrack 1 2\ntrack 0 4", 4, 2),
]


def text_of(tracks):
    return "\n".join([f"railway {len(tracks) + 1}"] + [f"track {a} {b}" for a, b in tracks])


class RightTexts(unittest.TestCase):
    def test_right_texts(self):
        line = tuple((k, k + 1) for k in range(99))
        for tracks in small_trees() + some_trees(100, 2) + [(), line, broom(50, 50)]:
            railway = Railway.read(text_of(tracks))
            self.assertIs(type(railway), Railway)
            self.assertEqual((railway.size, railway.tracks), (len(tracks) + 1, tracks))

    def test_text_as_it_is_written(self):
        self.assertEqual(Railway.read("railway 1").tracks, ())
        self.assertEqual(Railway.read("railway 4\ntrack 0 3\ntrack 1 3\ntrack 2 3").tracks, ((0, 3), (1, 3), (2, 3)))

    def test_a_track_may_begin_where_no_track_before_ends(self):
        self.assertEqual(Railway.read("railway 4\ntrack 0 1\ntrack 1 3\ntrack 2 3").path(0, 2), (0, 1, 3, 2))

    def test_by_name(self):
        self.assertEqual(Railway.read(text="railway 2\ntrack 0 1").size, 2)


class WrongTexts(Case):
    def test_wrong_texts(self):
        for text, row, word in WRONG:
            with self.subTest(text=text):
                self.fails(InvalidText(row, word), Railway.read, text)

    def test_no_strings(self):
        for value in (None, True, 0, 1, (), ("railway 1",), [], ["railway 1"], {}, Railway()):
            with self.subTest(value=value):
                self.fails(InvalidText(0, 0), Railway.read, value)
        self.fails(InvalidText(0, 0), Railway.read, text=b"railway 1")

    def test_digits_of_other_scripts(self):
        self.fails(InvalidText(1, 2), Railway.read, "railway \u0661")
        self.fails(InvalidText(1, 2), Railway.read, "railway \u00b2")

    def test_the_last_of_many_rows(self):
        tracks = [(0, k) for k in range(1, 100)]
        text = text_of(tracks)
        self.fails(InvalidText(101, 1), Railway.read, text + "\n")
        self.fails(InvalidText(100, 4), Railway.read, text + " ")
        self.fails(InvalidText(100, 3), Railway.read, text[:-3])
        self.fails(InvalidText(100, 1), Railway.read, "\n".join(text.split("\n")[:-1]))
        self.fails(InvalidText(1, 2), Railway.read, text.replace("railway 100", "railway 101") + "\ntrack 0 100")

    def test_exactly_the_right_texts_are_read(self):
        right = {text_of(tracks) for size in range(1, 5) for tracks in all_trees(size)}
        chance = random.Random(11)
        for text in sorted(right):
            for _ in range(400):
                other = changed(text, chance)
                if other in right:
                    self.assertEqual(text_of(Railway.read(other).tracks), other)
                else:
                    with self.assertRaises(InvalidText, msg=repr(other)) as caught:
                        Railway.read(other)
                    self.check_place(other, caught.exception)

    def check_place(self, text, error):
        """The place of an error is there, or just behind what is there."""
        rows = [line.split(" ") for line in text.split("\n")]
        self.assertTrue(1 <= error.row <= len(rows) + 1, text)
        words = rows[error.row - 1] if error.row <= len(rows) else []
        self.assertTrue(1 <= error.word <= len(words) + 1, text)
        # What stands before the first wrong place does not tell how the text is wrong behind it.
        if error.row <= len(rows) and error.word <= len(words):
            rows[error.row - 1][error.word - 1] = "?"
            self.fails(error, Railway.read, "\n".join(" ".join(row) for row in rows[:error.row]))


def changed(text, chance):
    """A text with one to three small changes."""
    for _ in range(chance.randint(1, 3)):
        at = chance.randrange(len(text) + 1)
        kind = chance.randrange(3)
        sign = chance.choice("0123 \nat")
        text = text[:at] + (sign if kind else "") + text[at + (kind < 2):]
    return text


if __name__ == "__main__":
    unittest.main()
