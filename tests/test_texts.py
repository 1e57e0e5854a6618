"""The texts of railways, standings, moves and trains."""

import random
import unittest

from tests.plain_texts import railway_rows, train_rows
from tests.plain_train import KINDS, PLANS, PlainTrain, TrainCase, drawn_call, new_train
from tests.support import NO_MOVES, NO_STANDINGS, Case, broom, fives, small_trees, some_trees, spider
from treetrain.errors import InvalidMove, InvalidStanding
from treetrain.parsing import read_moves, read_railway, read_standing, read_train
from treetrain.railways import Railway
from treetrain.texts import moves_text, railway_text, standing_text, train_text
from treetrain.trains import Train

LINE = Railway.line(5)
TREES = small_trees() + some_trees(100, 3) + [spider(99), spider(*[1] * 99), broom(50, 50)]


class Railways(unittest.TestCase):
    def test_texts_of_railways(self):
        for tracks in TREES:
            railway = Railway(*tracks)
            self.assertEqual(railway_text(railway), "\n".join(railway_rows(tracks)))
            self.assertTrue(read_railway(railway_text(railway)).is_same(railway))
            self.assertTrue(Railway.read(railway_text(railway)).is_same(railway))

    def test_tracks_in_ascending_order(self):
        railway = Railway((3, 2), (11, 0), (2, 1), (0, 10), (1, 0), (5, 4), (4, 3), (7, 6), (6, 5), (9, 8), (8, 7))
        wanted = "railway 12\ntrack 0 1\ntrack 0 10\ntrack 0 11\ntrack 1 2\ntrack 2 3\ntrack 3 4\ntrack 4 5\ntrack 5 6"
        self.assertEqual(railway_text(railway), wanted + "\ntrack 6 7\ntrack 7 8\ntrack 8 9")

    def test_one_station(self):
        self.assertEqual(railway_text(Railway()), "railway 1")

    def test_by_name(self):
        self.assertEqual(railway_text(railway=Railway.line(2)), "railway 2\ntrack 0 1")


class Standings(Case):
    def test_texts_of_standings(self):
        for tracks in TREES:
            railway = Railway(*tracks)
            for head in range(0, railway.size, 1 + railway.size // 20):
                for tail in range(railway.size):
                    if head != tail:
                        text = standing_text(railway, (head, tail))
                        self.assertEqual(text, str(head) + " " + str(tail))
                        self.assertEqual(read_standing(railway, text), (head, tail))

    def test_wrong_standings(self):
        for railway in fives():
            for value in NO_STANDINGS:
                self.fails(InvalidStanding(value), standing_text, railway, value)
        self.fails(InvalidStanding((0, 0)), standing_text, Railway(), (0, 0))

    def test_by_name(self):
        self.assertEqual(standing_text(standing=(4, 2), railway=LINE), "4 2")


class Moves(Case):
    def test_texts_of_moves(self):
        chance = random.Random(1)
        for tracks in TREES:
            size = len(tracks) + 1
            for many in (1, 2, 7, 100):
                moves = tuple((chance.choice(["head", "tail"]), chance.randrange(size)) for _ in range(many))
                text = moves_text(Railway(*tracks), moves)
                self.assertEqual(text, "\n".join([end + " " + str(x) for end, x in moves]))
                self.assertEqual(read_moves(Railway(*tracks), text), moves)

    def test_no_moves(self):
        for railway in (Railway(), LINE):
            self.assertEqual(moves_text(railway, ()), "")
            self.assertEqual(read_moves(railway, ""), ())

    def test_moves_need_not_be_possible(self):
        self.assertEqual(moves_text(LINE, (("head", 4), ("head", 4), ("tail", 0))), "head 4\nhead 4\ntail 0")
        self.assertEqual(moves_text(Railway(), (("head", 0),)), "head 0")

    def test_wrong_moves(self):
        for value in NO_MOVES:
            self.fails(InvalidMove(0), moves_text, LINE, (value,))
            self.fails(InvalidMove(1), moves_text, LINE, (("head", 4), value, value))
        for value in (None, True, 0, "", "head 1", [], [("head", 1)], {}, LINE):
            self.fails(InvalidMove(None), moves_text, LINE, value)

    def test_by_name(self):
        self.assertEqual(moves_text(moves=(("tail", 1), ("head", 2)), railway=LINE), "tail 1\nhead 2")


class Trains(TrainCase):
    def test_texts_of_trains(self):
        chance = random.Random(2)
        for kind in KINDS:
            for plan, railway in PLANS:
                standing = plan.standings(chance.choice(plan.lengths()))[0]
                train, plain = new_train(kind, railway, standing), PlainTrain(plan, railway, kind, standing)
                for _ in range(12):
                    self.same_call(train, plain, *drawn_call(plain, chance))
                    self.check_text(train, plain)

    def check_text(self, train, plain):
        """Asserts that the text of a train is right, and is read as the same train."""
        text = train_text(train)
        self.assertEqual(text, "\n".join(train_rows(plain.plan.tracks, plain.standings[0], plain.steps)))
        other = read_train(text)
        self.assertIs(type(other), Train)
        self.assertTrue(other.is_same(train) and train.is_same(other))
        self.assertEqual((other.steps, train_text(other)), (train.steps, text))
        for _ in train.steps:
            other.undo()
        self.assertEqual((other.standing, other.steps), (plain.standings[0], ()))

    def test_the_standing_before_the_first_step(self):
        train = Train(LINE, 1, 2)
        rows = "railway 5\ntrack 0 1\ntrack 1 2\ntrack 2 3\ntrack 3 4\n"
        self.assertEqual(train_text(train), rows + "train 1 2")
        train.run(("tail", 3), ("head", 1))
        self.assertEqual(train_text(train), rows + "train 1 2\ntail 3\nhead 1")
        train.undo()
        self.assertEqual(train_text(train), rows + "train 1 2\ntail 3")
        train.couple(4)
        self.assertEqual(train_text(train), rows + "train 2 4")
        train.uncouple()
        train.ahead(1)
        self.assertEqual(train_text(train), rows + "train 2 3\nhead 1")

    def test_hundred_stations(self):
        for tracks in some_trees(100, 2) + [spider(99), spider(*[1] * 99)]:
            railway = Railway(*tracks)
            train = Train(railway, 99, 0)
            self.assertEqual(train_text(train), "\n".join(train_rows(tracks, (99, 0), ())))
            self.assertTrue(read_train(train_text(train)).is_same(train))

    def test_very_many_steps(self):
        train = Train(Railway.line(3), 0, 1)
        train.run_all((("tail", 2), ("head", 0)) * 1400)
        self.assertEqual(read_train(train_text(train)).steps, train.steps)

    def test_it_changes_nothing(self):
        train = Train(LINE, 1, 2)
        train.run(("tail", 3), ("head", 1))
        train_text(train)
        self.assertEqual((train.standing, train.steps), ((1, 2), (("tail", 3), ("head", 1))))

    def test_by_name(self):
        self.assertEqual(train_text(train=Train(Railway.line(2), 1, 0)), "railway 2\ntrack 0 1\ntrain 1 0")


if __name__ == "__main__":
    unittest.main()
