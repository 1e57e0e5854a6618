"""Train objects of all classes."""

import random
import unittest

from tests.plain_train import (
    FUELLED, KINDS, PLANS, PROPERTIES, TOURING, PlainTrain, TrainCase, drawn_call, names_of, new_train, state_of,
)
from tests.support import NO_MOVES, NO_STANDINGS, NO_STATIONS, Plan, broom, fives, some_trees, spider
from treetrain.errors import (
    Blocked, InvalidCount, InvalidMove, InvalidStanding, InvalidStation, NothingToUndo, OutOfFuel, TooShort,
)
from treetrain.railways import Railway
from treetrain.standings import possible_moves
from treetrain.trains import FuelTrain, TouringFuelTrain, TouringTrain, Train

LINE = Railway.line(5)
STAR = Railway.star(5)


class Making(TrainCase):
    def test_new_trains(self):
        for train, plain in self.pairs():
            self.assertIs(type(train), plain.kind)
            self.assertEqual(state_of(train), plain.state())
            self.assertIs(train.railway, plain.railway)

    def test_classes_under_one_another(self):
        self.assertEqual(Train.__bases__, (object,))
        self.assertEqual((TouringTrain.__bases__, FuelTrain.__bases__), ((Train,), (Train,)))
        self.assertTrue(issubclass(TouringFuelTrain, TouringTrain) and issubclass(TouringFuelTrain, FuelTrain))

    def test_properties_of_other_classes_are_not_there(self):
        self.assertFalse(any(hasattr(Train(LINE, 0, 1), name) for name in ("visited", "fuel", "burnt")))
        self.assertFalse(any(hasattr(TouringTrain(LINE, 0, 1), name) for name in ("fuel", "burnt")))
        self.assertFalse(hasattr(FuelTrain(LINE, 0, 1), "visited"))

    def test_wrong_standings(self):
        for value in NO_STANDINGS:
            if isinstance(value, tuple) and len(value) == 2:
                head, tail = value
                for kind in KINDS:
                    for railway in fives():
                        self.fails(InvalidStanding((head, tail)), kind, railway, head, tail)
        for value in NO_STATIONS:
            for kind in KINDS:
                self.fails(InvalidStanding((value, 0)), kind, LINE, value, 0)
                self.fails(InvalidStanding((0, value)), kind, LINE, head=0, tail=value)

    def test_one_station(self):
        for kind in KINDS:
            self.fails(InvalidStanding((0, 0)), kind, Railway(), 0, 0)

    def test_properties_cannot_be_assigned(self):
        for kind in KINDS:
            train = new_train(kind, LINE, (1, 2))
            before = state_of(train)
            for name in names_of(kind):
                with self.assertRaises(AttributeError):
                    setattr(train, name, before[name])
                with self.assertRaises(AttributeError):
                    delattr(train, name)
            self.assertEqual(state_of(train), before)

    def test_kinds_of_results(self):
        train = TouringFuelTrain(LINE, 0, 2)
        self.assertEqual(train.run(("tail", 3)), (1, 3))
        for name in ("standing", "body", "steps", "visited"):
            self.assertIs(type(getattr(train, name)), tuple)
        for name in ("head", "tail", "span", "fuel", "burnt"):
            self.assertIs(type(getattr(train, name)), int)
        results = [train.run(), train.ahead(0), train.undo(), train.couple(4), train.uncouple(), train.reverse(4)]
        self.assertEqual([type(result) for result in results], [tuple] * 6)
        self.assertIs(type(train.steps[0]), tuple)


class Runs(TrainCase):
    def test_drawn_runs(self):
        chance = random.Random(1)
        for train, plain in self.pairs(fuel=30):
            for _ in range(30):
                self.same_call(train, plain, *drawn_call(plain, chance))
                self.assertIs(train.is_clamped(), plain.is_clamped())

    def test_drawn_runs_of_trains_that_do_not_run_dry(self):
        chance = random.Random(2)
        for train, plain in self.pairs(fuel=10 ** 49):
            for _ in range(15):
                self.same_call(train, plain, *drawn_call(plain, chance))

    def test_each_single_move(self):
        for train, plain in self.pairs():
            for end, name in (("head", "ahead"), ("tail", "reverse")):
                for station in plain.plan.stations:
                    one, other = train.copy(), PlainTrain(plain.plan, plain.railway, plain.kind, plain.standing())
                    self.same_call(one, other, name, [station])
                    one, other = train.copy(), PlainTrain(plain.plan, plain.railway, plain.kind, plain.standing())
                    self.same_call(one, other, "run", [(end, station)])

    def test_greater_railways(self):
        chance = random.Random(3)
        for tracks in some_trees(40, 1) + [broom(20, 20), spider(10, 10, 10)]:
            plan, railway = Plan(tracks), Railway(*tracks)
            for kind in KINDS:
                plain = PlainTrain(plan, railway, kind, tracks[7])
                train = new_train(kind, railway, tracks[7])
                for _ in range(40):
                    self.same_call(train, plain, *drawn_call(plain, chance))
        train = Train(Railway.line(100), 0, 99)
        self.fails(Blocked(0), train.ahead, 1)
        self.assertEqual((train.span, train.uncouple(), train.reverse(99)), (99, (0, 98), (1, 99)))

    def test_all_moves_or_none(self):
        for kind in KINDS:
            train = new_train(kind, LINE, (1, 2))
            before = state_of(train)
            self.fails(Blocked(2), train.run, ("tail", 3), ("tail", 4), ("tail", 4))
            self.fails(Blocked(1), train.run_all, (("tail", 3), ("head", 0)))
            self.fails(InvalidMove(2), train.run, ("tail", 3), ("tail", 4), ("tail", 5))
            self.fails(InvalidMove(1), train.run_all, (("tail", 3), ("up", 4), ("tail", 4)))
            self.assertEqual(state_of(train), before)

    def test_no_moves(self):
        for kind in KINDS:
            train = new_train(kind, LINE, (1, 2), fuel=0)
            before = state_of(train)
            self.assertEqual((train.run(), train.run_all(())), ((1, 2), (1, 2)))
            self.assertEqual(state_of(train), before)

    def test_very_many_moves(self):
        moves = (("tail", 2), ("head", 0)) * 25000
        for kind in KINDS:
            train = new_train(kind, Railway.line(3), (0, 1), fuel=50001)
            self.assertEqual((train.run_all(moves), len(train.steps), train.undo()), ((0, 1), 50000, (1, 2)))

    def test_wrong_moves(self):
        for kind in KINDS:
            train = new_train(kind, LINE, (1, 2))
            for value in NO_MOVES:
                self.fails(InvalidMove(0), train.run, value)
                self.fails(InvalidMove(1), train.run, ("tail", 3), value)
                self.fails(InvalidMove(0), train.run_all, (value, ("tail", 3)))
                self.fails(InvalidMove(2), train.run_all, (("tail", 3), ("tail", 4), value, value))
            for value in NO_STATIONS:
                self.fails(InvalidMove(0), train.ahead, value)
                self.fails(InvalidMove(0), train.reverse, value)
            self.assertEqual(train.steps, ())

    def test_moves_are_a_tuple(self):
        train = TouringFuelTrain(LINE, 1, 2)
        for value in (None, True, 0, "", "head", [], [("tail", 3)], {}, {("tail", 3): 1}, LINE, train):
            self.fails(InvalidMove(None), train.run_all, value)
        self.fails(InvalidMove(0), train.run, [("tail", 3)])
        self.fails(InvalidMove(0), train.run, (("tail", 3),))
        self.assertEqual((train.steps, train.fuel), ((), 100))

    def test_a_list_of_moves_is_not_modified(self):
        moves = [("tail", 3)]
        self.fails(InvalidMove(None), Train(LINE, 1, 2).run_all, moves)
        self.assertEqual(moves, [("tail", 3)])

    def test_fixed_runs(self):
        train = TouringTrain(STAR, 1, 0)
        self.assertEqual(train.run(("tail", 2), ("head", 3), ("tail", 4)), (0, 4))
        self.assertEqual((train.body, train.visited), ((0, 4), (0, 1, 3)))
        self.assertEqual(train.steps, (("tail", 2), ("head", 3), ("tail", 4)))
        self.assertEqual((train.undo(), train.undo(), train.undo()), ((3, 0), (0, 2), (1, 0)))

    def test_by_name(self):
        for kind in KINDS:
            train = kind(tail=2, head=1, railway=LINE)
            self.assertEqual((train.ahead(station=0), train.reverse(station=2)), ((0, 1), (1, 2)))
            self.assertEqual(train.run_all(moves=(("tail", 3),)), (2, 3))
            self.assertEqual(train.couple(station=4), (2, 4))


class Undo(TrainCase):
    def test_back_to_the_beginning(self):
        chance = random.Random(4)
        for train, plain in self.pairs():
            states = []
            for _ in range(6):
                moves = list(possible_moves(train.railway, train.standing))
                if moves:
                    states.append((train.standing, train.steps))
                    train.run(chance.choice(moves))
            for standing, steps in reversed(states):
                self.assertEqual(train.undo(), standing)
                self.assertEqual((train.standing, train.steps), (standing, steps))
            self.fails(NothingToUndo(0), train.undo)

    def test_nothing_to_undo(self):
        for kind in KINDS:
            train = new_train(kind, LINE, (1, 2))
            before = state_of(train)
            self.fails(NothingToUndo(0), train.undo)
            self.assertEqual(state_of(train), before)
            train.ahead(0)
            train.undo()
            self.fails(NothingToUndo(0), train.undo)

    def test_nothing_to_undo_is_told_before_missing_fuel(self):
        for kind in FUELLED:
            train = new_train(kind, LINE, (1, 2), fuel=1)
            self.fails(NothingToUndo(0), train.undo)
            train.ahead(0)
            self.fails(OutOfFuel(1), train.undo)
            self.assertEqual((train.standing, train.steps, train.fuel), ((0, 1), (("head", 0),), 0))
            self.fails(NothingToUndo(0), new_train(kind, LINE, (1, 2), fuel=0).undo)

    def test_coupling_empties_the_steps(self):
        for kind in KINDS:
            train = new_train(kind, LINE, (1, 2))
            train.run(("head", 0), ("tail", 2))
            train.couple(3)
            self.assertEqual((train.standing, train.steps), ((1, 3), ()))
            self.fails(NothingToUndo(0), train.undo)
            train.ahead(0)
            train.uncouple()
            self.assertEqual((train.standing, train.steps), ((0, 1), ()))
            self.fails(NothingToUndo(0), train.undo)
            train.reverse(2)
            self.assertEqual((train.undo(), train.steps), ((0, 1), ()))


class Coupling(TrainCase):
    def test_each_station(self):
        for train, plain in self.pairs(fuel=0):
            for station in range(-1, plain.plan.size + 1):
                one = PlainTrain(plain.plan, plain.railway, plain.kind, plain.standing(), 0)
                self.same_call(train.copy(), one, "couple", [station])
            self.same_call(train, plain, "uncouple", [])

    def test_wrong_stations(self):
        for kind in KINDS:
            for railway in fives():
                train = new_train(kind, railway, railway.tracks[0])
                before = state_of(train)
                for value in NO_STATIONS:
                    self.fails(InvalidStation(value), train.couple, value)
                self.assertEqual(state_of(train), before)

    def test_blocked(self):
        for kind in KINDS:
            train = new_train(kind, LINE, (1, 2))
            for station in (0, 1, 2, 4):
                self.fails(Blocked(0), train.couple, station)
            self.assertEqual((train.couple(3), train.body, train.span), ((1, 3), (1, 2, 3), 2))
            self.fails(Blocked(0), new_train(kind, STAR, (0, 1)).couple, 0)

    def test_too_short(self):
        for kind in KINDS:
            train = new_train(kind, LINE, (0, 4))
            self.assertEqual([train.uncouple() for _ in range(3)], [(0, 3), (0, 2), (0, 1)])
            before = state_of(train)
            self.fails(TooShort(2), train.uncouple)
            self.assertEqual(state_of(train), before)

    def test_the_head_stays(self):
        train = TouringTrain(LINE, 2, 3)
        self.assertEqual((train.couple(4), train.visited), ((2, 4), (2,)))
        self.assertEqual((train.uncouple(), train.visited), ((2, 3), (2,)))


class Touring(TrainCase):
    def test_stations_of_moves_that_were_taken_back_stay(self):
        for kind in TOURING:
            train = new_train(kind, LINE, (2, 3))
            self.assertEqual(train.visited, (2,))
            train.ahead(1)
            train.ahead(0)
            train.undo()
            train.undo()
            self.assertEqual((train.standing, train.visited), ((2, 3), (0, 1, 2)))
            train.couple(4)
            train.uncouple()
            train.reverse(4)
            self.assertEqual((train.standing, train.visited), ((3, 4), (0, 1, 2, 3)))

    def test_the_stations_within_a_run(self):
        for kind in TOURING:
            train = new_train(kind, LINE, (2, 3))
            train.run(("head", 1), ("head", 0), ("tail", 2), ("tail", 3))
            self.assertEqual((train.standing, train.visited), ((2, 3), (0, 1, 2)))

    def test_refused_moves_are_not_remembered(self):
        for kind in TOURING:
            train = new_train(kind, LINE, (2, 3))
            self.fails(Blocked(2), train.run, ("head", 1), ("head", 0), ("head", 0))
            self.fails(InvalidMove(1), train.run, ("head", 1), ("head", 9))
            self.assertEqual(train.visited, (2,))


class Fuel(TrainCase):
    def test_the_usual_fuel(self):
        for kind in FUELLED:
            train = kind(LINE, 1, 2)
            self.assertEqual((train.fuel, train.burnt), (100, 0))
            for _ in range(50):
                train.run(("head", 0), ("tail", 2))
            self.assertEqual((train.fuel, train.burnt, len(train.steps)), (0, 100, 100))
            self.fails(OutOfFuel(1), train.ahead, 0)

    def test_moves_and_moves_that_are_taken_back(self):
        for kind in FUELLED:
            train = kind(LINE, 1, 2, fuel=5)
            train.run(("head", 0), ("tail", 2))
            train.undo()
            self.assertEqual((train.fuel, train.burnt), (2, 3))
            train.couple(2)
            train.uncouple()
            self.assertEqual((train.standing, train.fuel, train.burnt), ((0, 1), 2, 3))
            self.fails(OutOfFuel(3), train.run, ("tail", 2), ("tail", 3), ("tail", 4))
            self.assertEqual((train.standing, train.fuel, train.burnt), ((0, 1), 2, 3))
            self.assertEqual(train.run(("tail", 2), ("tail", 3)), (2, 3))
            self.assertEqual((train.fuel, train.burnt), (0, 5))

    def test_no_fuel(self):
        for kind in FUELLED:
            train = kind(LINE, 1, 2, fuel=0)
            self.fails(OutOfFuel(1), train.ahead, 0)
            self.fails(OutOfFuel(2), train.run, ("head", 0), ("tail", 2))
            self.assertEqual((train.run(), train.couple(3), train.uncouple()), ((1, 2), (1, 3), (1, 2)))
            self.assertEqual((train.fuel, train.burnt), (0, 0))

    def test_refused_moves_burn_nothing(self):
        for kind in FUELLED:
            train = kind(LINE, 1, 2, fuel=9)
            self.fails(Blocked(1), train.run, ("head", 0), ("head", 0))
            self.fails(InvalidMove(0), train.ahead, 7)
            self.fails(NothingToUndo(0), train.undo)
            self.assertEqual((train.fuel, train.burnt), (9, 0))

    def test_errors_in_their_order(self):
        for kind in FUELLED:
            train = kind(LINE, 1, 2, fuel=1)
            # No move, too little fuel and a move that is not possible: one after the other is put right.
            self.fails(InvalidMove(1), train.run, ("head", 4), ("head", 5))
            self.fails(InvalidMove(None), train.run_all, [("head", 4), ("head", 5)])
            self.fails(OutOfFuel(2), train.run, ("head", 4), ("head", 4))
            self.fails(OutOfFuel(2), train.run_all, (("head", 4), ("head", 4)))
            self.fails(Blocked(0), train.run, ("head", 4))
            dry = kind(LINE, 1, 2, fuel=0)
            self.fails(InvalidMove(0), dry.ahead, 5)
            self.fails(OutOfFuel(1), dry.ahead, 4)
            self.fails(OutOfFuel(1), dry.reverse, 4)

    def test_wrong_fuel(self):
        for kind in FUELLED:
            for value in (None, True, False, -1, -(10 ** 49), "", "5", (), (5,), [], [5], {}, LINE):
                self.fails(InvalidCount(value), kind, LINE, 1, 2, fuel=value)
                self.fails(InvalidStanding((1, 1)), kind, LINE, 1, 1, fuel=value)
            self.assertRaises(TypeError, kind, LINE, 1, 2, 5)

    def test_much_fuel(self):
        for kind in FUELLED:
            train = kind(LINE, 1, 2, fuel=10 ** 49)
            train.ahead(0)
            self.assertEqual((train.fuel, train.burnt), (10 ** 49 - 1, 1))


class Copies(TrainCase):
    def test_a_copy_is_of_the_same_class_in_the_same_state(self):
        chance = random.Random(5)
        for train, plain in self.pairs(fuel=20):
            for _ in range(8):
                self.same_call(train, plain, *drawn_call(plain, chance))
                other = train.copy()
                self.assertIs(type(other), type(train))
                self.assertIsNot(other, train)
                self.assertIs(other.railway, train.railway)
                self.assertEqual(state_of(other), plain.state())

    def test_copies_are_independent_in_both_directions(self):
        chance = random.Random(6)
        for one, plain in self.pairs(fuel=20):
            for _ in range(4):
                self.same_call(one, plain, *drawn_call(plain, chance))
            for moving, resting in ((one.copy(), one), (one, one.copy())):
                before = state_of(resting)
                found = PlainTrain(plain.plan, plain.railway, plain.kind, plain.standing())
                for name, values in [drawn_call(found, chance) for _ in range(6)] + [("undo", []), ("uncouple", [])]:
                    try:
                        getattr(moving, name)(*values)
                    except Exception:
                        pass
                self.assertEqual(state_of(resting), before)

    def test_a_copy_takes_its_steps_back(self):
        for kind in KINDS:
            train = new_train(kind, LINE, (1, 2))
            train.run(("tail", 3), ("tail", 4))
            other = train.copy()
            self.assertEqual((other.undo(), other.undo()), ((2, 3), (1, 2)))
            self.fails(NothingToUndo(0), other.undo)
            self.assertEqual((train.undo(), train.steps), ((2, 3), (("tail", 3),)))

    def test_two_trains_on_one_railway(self):
        for one in KINDS:
            for other in KINDS:
                resting = new_train(other, STAR, (1, 0))
                before = state_of(resting)
                moving = new_train(one, STAR, (1, 0))
                moving.run(("tail", 2), ("head", 3))
                moving.undo()
                moving.ahead(3)
                moving.couple(4)
                self.assertEqual(state_of(resting), before)
        self.assertEqual(STAR.tracks, Railway.star(5).tracks)


class Sameness(TrainCase):
    def test_across_classes_and_orders_of_tracks(self):
        for one in KINDS:
            for other in KINDS:
                first = new_train(one, Railway((0, 1), (1, 2), (1, 3)), (0, 2))
                second = new_train(other, Railway((3, 1), (2, 1), (1, 0)), (0, 2), fuel=7)
                self.assertIs(first.is_same(second), True)
                self.assertIs(first.is_same(new_train(other, first.railway, (2, 0))), False)
                self.assertIs(first.is_same(new_train(other, Railway.star(4), (0, 2))), False)
                self.assertIs(first.is_same(new_train(other, Railway.line(3), (0, 2))), False)

    def test_steps_stations_and_fuel_do_not_count(self):
        train = TouringFuelTrain(LINE, 1, 2)
        train.run(("head", 0), ("tail", 2))
        self.assertIs(train.is_same(TouringFuelTrain(LINE, 1, 2, fuel=3)), True)
        self.assertIs(train.is_same(train), True)
        train.undo()
        self.assertIs(train.is_same(TouringFuelTrain(LINE, 1, 2)), False)
        self.assertIs(train.is_same(Train(LINE, 0, 1)), True)

    def test_other_values(self):
        for kind in KINDS:
            train = new_train(kind, LINE, (0, 1))
            for value in NO_STANDINGS + (LINE, (0, 1), LINE.tracks, Train, "train"):
                self.assertIs(train.is_same(value), False)
                self.assertIs(train.is_same(other=value), False)


class Clamped(TrainCase):
    def test_every_standing(self):
        for kind in KINDS:
            for plan, railway in PLANS:
                for length in plan.lengths():
                    for standing in plan.standings(length):
                        train = new_train(kind, railway, standing, fuel=0)
                        self.assertIs(train.is_clamped(), plan.clamps(standing) != ())

    def test_it_changes_nothing(self):
        for kind in KINDS:
            train = new_train(kind, LINE, (1, 2))
            train.ahead(0)
            before = state_of(train)
            train.is_clamped()
            self.assertEqual(state_of(train), before)
        self.assertEqual(PROPERTIES, names_of(Train))


if __name__ == "__main__":
    unittest.main()
