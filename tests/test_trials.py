"""Trials: trains run, and stand behind the block as before it."""

import random
import unittest

from tests.plain_train import ERRORS, FUELLED, KINDS, TrainCase, drawn_call, drawn_moves, new_train, state_of
from tests.support import NO_MOVES
from treetrain.errors import Blocked, InvalidMove, NothingToUndo, OutOfFuel
from treetrain.railways import Railway
from treetrain.trains import TouringFuelTrain, Train
from treetrain.trials import Trial, tried, tried_all

LINE = Railway.line(5)


class Stop(Exception):
    """An error of the callers."""


def call(train, name, values):
    """Calls a method of a train, whatever it raises."""
    try:
        getattr(train, name)(*values)
    except ERRORS:
        pass


class Blocks(TrainCase):
    def run_pairs(self, chance, many=6):
        """Trains and plain trains behind some drawn calls."""
        for train, plain in self.pairs(fuel=12):
            for _ in range(many):
                self.same_call(train, plain, *drawn_call(plain, chance))
            yield train, plain

    def goes_on_as_before(self, train, plain, chance):
        """Asserts that a train is as a plain train, takes its steps back likewise, and runs on likewise."""
        self.assertIs(type(train), plain.kind)
        self.assertEqual(state_of(train), plain.state())
        self.assertIs(train.is_clamped(), plain.is_clamped())
        for _ in range(len(train.steps) + 1):
            self.same_call(train, plain, "undo", [])
        for _ in range(3):
            self.same_call(train, plain, *drawn_call(plain, chance))

    def test_all_that_a_train_does_in_a_block(self):
        chance = random.Random(1)
        for train, plain in self.run_pairs(chance):
            with Trial(train):
                self.assertEqual(state_of(train), plain.state())
                for name, values in [drawn_call(plain, chance) for _ in range(8)]:
                    call(train, name, values)
            self.goes_on_as_before(train, plain, chance)

    def test_steps_that_are_taken_back_and_coupling_in_a_block(self):
        chance = random.Random(2)
        for train, plain in self.run_pairs(chance):
            for name in ("undo", "uncouple"):
                with Trial(train):
                    for _ in range(4):
                        call(train, name, [])
            with Trial(train):
                for station in plain.plan.stations:
                    call(train, "couple", [station])
            self.goes_on_as_before(train, plain, chance)

    def test_a_train_runs_in_a_block_as_ever(self):
        for kind in KINDS:
            train = new_train(kind, LINE, (1, 2), fuel=3)
            with Trial(train):
                self.assertEqual(train.run(("tail", 3), ("tail", 4)), (3, 4))
                self.assertEqual((train.standing, train.steps), ((3, 4), (("tail", 3), ("tail", 4))))
                self.assertEqual(train.undo(), (2, 3))
                if kind in FUELLED:
                    self.assertEqual((train.fuel, train.burnt), (0, 3))
                    self.fails(OutOfFuel(1), train.undo)
                self.assertEqual(train.couple(4), (2, 4))
            self.assertEqual((train.standing, train.steps), ((1, 2), ()))

    def test_errors_go_on(self):
        for kind in KINDS:
            train = new_train(kind, LINE, (1, 2))
            train.ahead(0)
            before = state_of(train)
            for error in (Stop(), ValueError("x"), KeyError(1), Blocked(7), KeyboardInterrupt()):
                with self.assertRaises(type(error)) as caught:
                    with Trial(train):
                        train.run(("tail", 2), ("tail", 3))
                        train.couple(4)
                        raise error
                self.assertIs(caught.exception, error)
                self.assertEqual(state_of(train), before)
            with self.assertRaises(Blocked) as caught:
                with Trial(train):
                    train.reverse(2)
                    train.reverse(2)
            self.assertEqual(caught.exception.position, 0)
            self.assertEqual(state_of(train), before)
            self.assertEqual((train.undo(), train.steps), ((1, 2), ()))

    def test_a_block_that_is_left_early(self):
        def left(train):
            with Trial(train):
                return train.ahead(0)

        train = TouringFuelTrain(LINE, 1, 2)
        self.assertEqual(left(train), (0, 1))
        for move in (("head", 0), ("tail", 3)):
            with Trial(train):
                train.run(move)
                continue
        for move in (("head", 0), ("tail", 3)):
            with Trial(train):
                train.run(move)
                break
        self.assertEqual((train.standing, train.steps, train.visited, train.fuel), ((1, 2), (), (1,), 100))

    def test_trials_inside_trials(self):
        chance = random.Random(3)
        for train, plain in self.run_pairs(chance, 4):
            with Trial(train):
                call(train, *drawn_call(plain, chance))
                middle = state_of(train)
                with Trial(train):
                    call(train, *drawn_call(plain, chance))
                    with self.assertRaises(Stop):
                        with Trial(train):
                            call(train, "uncouple", [])
                            raise Stop
                    call(train, *drawn_call(plain, chance))
                self.assertEqual(state_of(train), middle)
                call(train, *drawn_call(plain, chance))
            self.goes_on_as_before(train, plain, chance)

    def test_one_trial_for_several_blocks(self):
        for kind in KINDS:
            train = new_train(kind, LINE, (1, 2))
            trial = Trial(train)
            with trial:
                train.ahead(0)
            self.assertEqual(train.standing, (1, 2))
            train.reverse(3)
            before = state_of(train)
            # A block begins where the train stands then, not where the trial was made.
            with trial:
                train.reverse(4)
                inner = state_of(train)
                with trial:
                    train.uncouple() if train.span > 1 else train.undo()
                self.assertEqual(state_of(train), inner)
            self.assertEqual(state_of(train), before)

    def test_making_a_trial_changes_nothing(self):
        train = TouringFuelTrain(LINE, 1, 2)
        trial = Trial(train)
        train.ahead(0)
        self.assertEqual((train.standing, train.visited, train.fuel), ((0, 1), (0, 1), 99))
        with trial:
            pass
        self.assertEqual((train.standing, train.visited, train.fuel), ((0, 1), (0, 1), 99))

    def test_other_trains_are_not_restored(self):
        train = TouringFuelTrain(LINE, 1, 2)
        with Trial(train):
            other = train.copy()
            other.ahead(0)
            train.reverse(3)
        self.assertEqual((train.standing, other.standing, other.steps), ((1, 2), (0, 1), (("head", 0),)))

    def test_by_name(self):
        train = Train(LINE, 1, 2)
        with Trial(train=train) as held:
            self.assertIs(held, train)
            train.ahead(0)
        self.assertEqual(train.standing, (1, 2))


class Tried(TrainCase):
    def test_drawn_moves(self):
        chance = random.Random(4)
        for train, plain in self.pairs(fuel=4):
            call(train, *drawn_call(plain, chance))
            for _ in range(4):
                before = state_of(train)
                moves = tuple(drawn_moves(plain, chance, 6))
                other = train.copy()
                try:
                    wanted = other.run_all(moves)
                except ERRORS as error:
                    self.fails(error, tried, train, *moves)
                    self.fails(error, tried_all, train, moves)
                else:
                    self.assertEqual((tried(train, *moves), tried_all(train, moves)), (wanted, wanted))
                self.assertEqual(state_of(train), before)

    def test_no_moves(self):
        for kind in KINDS:
            train = new_train(kind, LINE, (1, 2), fuel=0)
            self.assertEqual((tried(train), tried_all(train, ())), ((1, 2), (1, 2)))

    def test_wrong_moves(self):
        for kind in KINDS:
            train = new_train(kind, LINE, (1, 2))
            train.ahead(0)
            before = state_of(train)
            for value in NO_MOVES:
                self.fails(InvalidMove(1), tried, train, ("tail", 2), value)
                self.fails(InvalidMove(0), tried_all, train, (value, ("tail", 2)))
            for value in (None, True, 0, "", [], [("tail", 2)], {}, LINE):
                self.fails(InvalidMove(None), tried_all, train, value)
            self.fails(Blocked(1), tried, train, ("tail", 2), ("head", 4))
            self.assertEqual(state_of(train), before)
            self.assertEqual(train.undo(), (1, 2))
            self.fails(NothingToUndo(0), train.undo)

    def test_too_little_fuel(self):
        for kind in FUELLED:
            train = kind(LINE, 1, 2, fuel=2)
            self.assertEqual(tried(train, ("tail", 3), ("tail", 4)), (3, 4))
            self.fails(OutOfFuel(3), tried, train, ("tail", 3), ("tail", 4), ("tail", 4))
            self.fails(OutOfFuel(3), tried_all, train, (("tail", 3), ("tail", 4), ("head", 2)))
            self.fails(InvalidMove(2), tried, train, ("tail", 3), ("tail", 4), ("tail", 5))
            self.assertEqual((train.standing, train.fuel, train.burnt), ((1, 2), 2, 0))

    def test_a_list_of_moves_is_not_modified(self):
        moves = [("tail", 3)]
        self.fails(InvalidMove(None), tried_all, Train(LINE, 1, 2), moves)
        self.assertEqual(moves, [("tail", 3)])

    def test_by_name(self):
        self.assertEqual(tried_all(moves=(("tail", 3),), train=Train(LINE, 1, 2)), (2, 3))


if __name__ == "__main__":
    unittest.main()
