"""The readers of texts, against a plain reader."""

import random
import unittest

from tests.plain_texts import (
    Wrong, changed, plain_moves, plain_railway, plain_standing, plain_train, railway_rows, train_rows,
)
from tests.plain_train import PLANS, PlainTrain, drawn_moves
from tests.support import Case, all_trees, broom, small_trees, some_trees, spider
from treetrain.errors import InvalidText
from treetrain.parsing import read_moves, read_railway, read_standing, read_train
from treetrain.railways import Railway
from treetrain.trains import Train

LINE = Railway.line(5)
NO_TEXTS = (None, True, False, 0, 1, (), ("railway 1",), [], ["railway 1"], {}, {"railway 1": 1}, LINE, Train(LINE, 0, 1))
ROWS = "railway 3\ntrack 0 1\ntrack 1 2"
# Text, row and word of what is wrong first.
WRONG_STANDINGS = (
    ("", 1, 1), (" ", 1, 1), ("\n", 1, 1), ("x", 1, 1), ("5", 1, 1), ("5 6", 1, 1), ("-1 0", 1, 1), ("00 1", 1, 1),
    ("+1 0", 1, 1), ("01 0", 1, 1), ("\t0 1", 1, 1), (" 0 1", 1, 1), ("head 0 1", 1, 1), ("10000 0", 1, 1), ("0,1", 1, 1),
    ("0", 1, 2), ("0 ", 1, 2), ("0 0", 1, 2), ("4 4", 1, 2), ("0 5", 1, 2), ("0  1", 1, 2), ("0 01", 1, 2), ("0\n1", 1, 2),
    ("0 0 1", 1, 2), ("0 x", 1, 2), ("0 1000", 1, 2), ("0 10000", 1, 2), ("0 1\t", 1, 2), ("0 0\n", 1, 2), ("0\t1", 1, 1),
    ("0 1 ", 1, 3), ("0 1 2", 1, 3), ("0 1  2", 1, 3), ("0 1 \n", 1, 3), ("0 1\n", 2, 1), ("0 1\n0 1", 2, 1),
    ("0 1\n\n", 2, 1), ("0 1\n ", 2, 1),
)
WRONG_MOVES = (
    (" ", 1, 1), ("\n", 1, 1), ("x", 1, 1), ("up 1", 1, 1), ("Head 1", 1, 1), (" head 1", 1, 1), ("1 head", 1, 1),
    ("headtail 1", 1, 1), ("head\t1", 1, 1), ("head1", 1, 1), ("none", 1, 1), ("0 1", 1, 1), ("\nhead 1", 1, 1),
    ("head", 1, 2), ("head ", 1, 2), ("head  1", 1, 2), ("head 5", 1, 2), ("tail 01", 1, 2), ("tail -1", 1, 2),
    ("tail x", 1, 2), ("head 5 1", 1, 2), ("head 10000", 1, 2), ("head\nhead 1", 1, 2), ("tail 1\t", 1, 2),
    ("head 1 ", 1, 3), ("head 1 2", 1, 3), ("head 1 tail 2", 1, 3), ("head 1 /", 1, 3), ("tail 1 \nx", 1, 3),
    ("head 1\n", 2, 1), ("head 1\n\nhead 2", 2, 1), ("head 1\nx", 2, 1), ("head 1\nhead", 2, 2), ("head 1\nhead 5", 2, 2),
    ("head 1\ntail 2 3", 2, 3), ("head 1\ntail 2\nhead 3\n", 4, 1), ("head 1\ntail 2\nhead 3\ntail 9", 4, 2),
)
WRONG_TRAINS = (
    ("", 1, 1), ("railway 1", 2, 1), ("railway 1\ntrain", 2, 2), ("railway 1\ntrain 0", 2, 3), ("railway 1\ntrain 1", 2, 2),
    ("railway 1\ntrain 0 0", 2, 3), ("railway 1\ntrain 0 1", 2, 3), ("train 0 1", 1, 1), ("railway 2\ntrain 0 1", 2, 1),
    (ROWS, 4, 1), (ROWS + "\n", 4, 1), (ROWS + "\n\ntrain 0 1", 4, 1), (ROWS + "\nTrain 0 1", 4, 1),
    (ROWS + "\ntrack 0 2\ntrain 0 1", 4, 1), (ROWS + "\n0 1", 4, 1), (ROWS + "\n train 0 1", 4, 1), (ROWS + "\nhead 2", 4, 1),
    (ROWS + "\ntrain", 4, 2), (ROWS + "\ntrain ", 4, 2), (ROWS + "\ntrain 3 0", 4, 2), (ROWS + "\ntrain x 0", 4, 2),
    (ROWS + "\ntrain  0 1", 4, 2), (ROWS + "\ntrain 00 1", 4, 2), (ROWS + "\ntrain 0", 4, 3), (ROWS + "\ntrain 0 0", 4, 3),
    (ROWS + "\ntrain 0 3", 4, 3), (ROWS + "\ntrain 2 2 2", 4, 3), (ROWS + "\ntrain 1 1\nx", 4, 3),
    (ROWS + "\ntrain 0 1 ", 4, 4), (ROWS + "\ntrain 0 1 2", 4, 4), (ROWS + "\ntrain 0 1 \nx", 4, 4),
    (ROWS + "\ntrain 0 1\n", 5, 1), (ROWS + "\ntrain 0 1\nup 2", 5, 1), (ROWS + "\ntrain 0 1\ntrain 0 1", 5, 1),
    (ROWS + "\ntrain 0 1\ntail", 5, 2), (ROWS + "\ntrain 0 1\ntail 3", 5, 2), (ROWS + "\ntrain 0 1\ntail 02", 5, 2),
    (ROWS + "\ntrain 0 1\nhead 2", 5, 2), (ROWS + "\ntrain 0 1\ntail 0", 5, 2), (ROWS + "\ntrain 0 1\ntail 1", 5, 2),
    (ROWS + "\ntrain 0 2\nhead 1", 5, 2), (ROWS + "\ntrain 0 2\ntail 1\nx", 5, 2), (ROWS + "\ntrain 0 1\nhead 2\n", 5, 2),
    # That a step is not possible is told only if its row is right otherwise.
    (ROWS + "\ntrain 0 1\nhead 2 ", 5, 3), (ROWS + "\ntrain 0 1\ntail 0 x", 5, 3), (ROWS + "\ntrain 0 1\ntail 2 1", 5, 3),
    (ROWS + "\ntrain 0 1\ntail 2\n", 6, 1), (ROWS + "\ntrain 0 1\ntail 2\ntail 2", 6, 2),
    (ROWS + "\ntrain 0 1\ntail 2\nhead 0\nhead 0", 7, 2), (ROWS + "\ntrain 0 1\ntail 2\nhead 0\ntail 2\n\n", 8, 1),
    # What is wrong in the tracks is told first.
    ("railway 3\ntrack 0 1\ntrack 0 1\ntrain 0 0\nup 7", 3, 3), ("railway 3\ntrack 1 2\ntrack 0 1\ntrain 0 0", 3, 2),
    ("railway 4\ntrack 0 1\ntrack 0 2\ntrack 1 2\ntrain 0 1", 4, 3), ("railway 3 \ntrack 0 1\ntrack 1 2\ntrain 0 1", 1, 3),
)


class Readers(Case):
    def compare(self, wanted, read, told, *values):
        """Asserts that a reader raises what a plain reader raises for a text, or returns what it returns."""
        try:
            right = wanted(*values)
        except Wrong as error:
            self.fails(InvalidText(*error.place), read, *values)
            return False
        self.assertEqual(told(read(*values)), right, values)
        return True

    def railway(self, text):
        self.compare(plain_railway, Railway.read, lambda found: found.tracks, text)
        return self.compare(plain_railway, read_railway, lambda found: found.tracks, text)

    def standing(self, railway, text):
        return self.compare(
            lambda railway, text: plain_standing(text, railway.size), read_standing, tuple, railway, text)

    def moves(self, railway, text):
        return self.compare(lambda railway, text: plain_moves(text, railway.size), read_moves, tuple, railway, text)

    def train(self, text):
        def told(train):
            steps, standing, first = train.steps, train.standing, train.copy()
            for _ in steps:
                first.undo()
            return train.railway.tracks, first.standing, standing, steps

        return self.compare(plain_train, read_train, told, text)


class Right(Readers):
    def test_railways(self):
        for tracks in small_trees() + some_trees(100, 3) + [spider(99), spider(*[1] * 99), broom(50, 50)]:
            self.assertTrue(self.railway("\n".join(railway_rows(tracks))))

    def test_standings(self):
        for railway in (LINE, Railway.line(2), Railway.star(100)):
            for head in range(railway.size):
                for tail in range(railway.size):
                    self.assertIs(self.standing(railway, f"{head} {tail}"), head != tail)

    def test_moves(self):
        self.assertEqual(read_moves(LINE, "head 4\nhead 4\ntail 0"), (("head", 4), ("head", 4), ("tail", 0)))
        self.assertEqual(read_moves(Railway(), "tail 0"), (("tail", 0),))
        for railway in (LINE, Railway(), Railway.line(100)):
            self.assertEqual(read_moves(railway, ""), ())
            for end in ("head", "tail"):
                for station in range(railway.size):
                    self.assertTrue(self.moves(railway, f"{end} {station}"))

    def test_trains(self):
        chance = random.Random(1)
        for plan, railway in PLANS:
            for length in plan.lengths():
                for standing in plan.standings(length)[:5]:
                    plain = PlainTrain(plan, railway, Train, standing)
                    steps = drawn_moves(plain, chance, 9)
                    self.train("\n".join(train_rows(plan.tracks, standing, steps)))
                    self.assertTrue(self.train("\n".join(train_rows(plan.tracks, standing, ()))))

    def test_kinds_of_results(self):
        self.assertIs(type(read_railway("railway 1")), Railway)
        self.assertIs(type(read_standing(LINE, "0 1")), tuple)
        self.assertIs(type(read_moves(LINE, "head 0")), tuple)
        self.assertIs(type(read_moves(LINE, "head 0")[0]), tuple)
        self.assertIs(type(read_train(ROWS + "\ntrain 0 1")), Train)

    def test_a_train_that_was_read_takes_its_steps_back(self):
        train = read_train(ROWS + "\ntrain 0 1\ntail 2\nhead 0")
        self.assertEqual((train.standing, train.steps), ((0, 1), (("tail", 2), ("head", 0))))
        self.assertEqual((train.undo(), train.undo(), train.steps), ((1, 2), (0, 1), ()))

    def test_by_name(self):
        self.assertEqual(read_railway(text="railway 2\ntrack 0 1").size, 2)
        self.assertEqual(read_standing(text="0 1", railway=LINE), (0, 1))
        self.assertEqual(read_moves(text="head 1", railway=LINE), (("head", 1),))
        self.assertEqual(read_train(text=ROWS + "\ntrain 0 1").standing, (0, 1))


class WrongTexts(Readers):
    def test_fixed_texts(self):
        for text, row, word in WRONG_STANDINGS:
            with self.subTest(text=text):
                self.fails(InvalidText(row, word), read_standing, LINE, text)
        for text, row, word in WRONG_MOVES:
            with self.subTest(text=text):
                self.fails(InvalidText(row, word), read_moves, LINE, text)
        for text, row, word in WRONG_TRAINS:
            with self.subTest(text=text):
                self.fails(InvalidText(row, word), read_train, text)

    def test_no_texts(self):
        for value in NO_TEXTS:
            with self.subTest(value=value):
                self.fails(InvalidText(0, 0), read_railway, value)
                self.fails(InvalidText(0, 0), Railway.read, value)
                self.fails(InvalidText(0, 0), read_train, value)
                self.fails(InvalidText(0, 0), read_standing, LINE, value)
                self.fails(InvalidText(0, 0), read_moves, LINE, value)

    def test_one_station(self):
        for text, row, word in (("", 1, 1), ("0", 1, 2), ("0 0", 1, 2), ("0 1", 1, 2), ("1 0", 1, 1)):
            self.fails(InvalidText(row, word), read_standing, Railway(), text)
        self.fails(InvalidText(1, 2), read_moves, Railway(), "head 1")

    def test_changed_texts_of_railways(self):
        chance = random.Random(2)
        for size in range(1, 5):
            for tracks in all_trees(size):
                text = "\n".join(railway_rows(tracks))
                for _ in range(200):
                    self.railway(changed(text, chance))

    def test_changed_texts_of_standings(self):
        chance = random.Random(3)
        for text in ("0 1", "4 2", "3 0"):
            for _ in range(1500):
                self.standing(LINE, changed(text, chance))
        for _ in range(500):
            self.standing(Railway.line(100), changed("99 10", chance))

    def test_changed_texts_of_moves(self):
        chance = random.Random(4)
        for text in ("head 0", "tail 4", "head 1\ntail 2", "tail 3\nhead 3\nhead 2\ntail 0", ""):
            for _ in range(1000):
                self.moves(LINE, changed(text, chance))

    def test_changed_texts_of_trains(self):
        chance = random.Random(5)
        for plan, railway in PLANS[:25]:
            for _ in range(8):
                standing = chance.choice([pair for pair in plan.paths if pair[0] != pair[1]])
                steps = drawn_moves(PlainTrain(plan, railway, Train, standing), chance, 6)
                text = "\n".join(train_rows(plan.tracks, standing, steps))
                for _ in range(40):
                    self.train(changed(text, chance))

    def test_changed_texts_of_great_trains(self):
        chance = random.Random(6)
        for tracks in some_trees(30, 2):
            text = "\n".join(train_rows(tracks, (3, 7), ()))
            for _ in range(60):
                self.train(changed(text, chance))
        for tracks in some_trees(100, 2):
            text = "\n".join(railway_rows(tracks))
            for _ in range(60):
                self.railway(changed(text, chance))

    def test_hundred_and_more_stations(self):
        rows = railway_rows([(0, k) for k in range(1, 101)])
        self.fails(InvalidText(1, 2), read_railway, "\n".join(rows))
        self.fails(InvalidText(1, 2), read_train, "\n".join(rows + ["train 0 1"]))
        rows = railway_rows([(0, k) for k in range(1, 100)])
        self.assertEqual(read_train("\n".join(rows + ["train 99 98"])).standing, (99, 98))
        self.fails(InvalidText(101, 3), read_train, "\n".join(rows + ["train 99 100"]))
        self.fails(InvalidText(101, 1), read_railway, "\n".join(rows + ["train 99 98"]))
        self.fails(InvalidText(102, 2), read_train, "\n".join(rows + ["train 99 98", "tail 97"]))


if __name__ == "__main__":
    unittest.main()
