"""The whole program: desk, trains and functions tell the same of the same standing."""

import random
import unittest

from tests.plain_desk import PlainDesk
from tests.plain_train import KINDS, PLANS, TrainCase, new_train
from tests.support import NO_INTEGERS, Plan, broom, shapes, some_trees, spider
from treetrain.changes import halved, renamed
from treetrain.classes import class_of, class_size, count_classes
from treetrain.climbing import is_free, pocket
from treetrain.deciding import decide, leads
from treetrain.depths import diameter
from treetrain.desk import Desk
from treetrain.lengths import can_turn, length_rows, passing_length, turning_length
from treetrain.parsing import read_moves, read_railway, read_standing, read_train
from treetrain.railways import Railway
from treetrain.standings import body_of, length_of, moved_along, possible_moves, standings
from treetrain.texts import moves_text, railway_text, standing_text, train_text
from treetrain.trials import tried, tried_all
from treetrain.ways import fewest_moves, shortest_way, way

TREES = shapes(2, 6) + [broom(4, 3), spider(2, 2, 2), spider(1, 2, 3)]


def desk_on(tracks, standing=None):
    """A desk with a train on a railway, perhaps with this standing."""
    desk = Desk()
    answers = [desk.execute("railway " + " / ".join(f"{a} {b}" for a, b in tracks))]
    if standing is not None:
        answers.append(desk.execute(f"place {standing[0]} {standing[1]}"))
    assert set(answers) == {"done"}
    return desk


def run_of(moves):
    """The command for moves."""
    return "run " + moves_text(Railway.line(100), moves).replace("\n", " / ")


class Search(unittest.TestCase):
    """The desk against a search that makes all possible moves."""

    def test_every_standing_of_small_railways(self):
        for tracks in TREES:
            plan, desk, plain = Plan(tracks), desk_on(tracks), PlainDesk()
            plain.lay(list(tracks))
            for head, tail in [pair for pair in plan.paths if pair[0] != pair[1]]:
                for command in (f"place {head} {tail}", "class", "turn", "show", "body"):
                    self.assertEqual(desk.execute(command), plain.execute(command))

    def test_every_length(self):
        for tracks in TREES + some_trees(9, 3):
            plan, desk, plain = Plan(tracks), desk_on(tracks), PlainDesk()
            plain.lay(list(tracks))
            for command in ["lengths"] + [f"count {length}" for length in range(plan.diameter() + 2)]:
                self.assertEqual(desk.execute(command), plain.execute(command))

    def test_every_goal(self):
        for tracks in TREES:
            plan, desk, railway = Plan(tracks), desk_on(tracks), Railway(*tracks)
            pairs = [pair for pair in plan.paths if pair[0] != pair[1]]
            for start in pairs:
                desk.execute(f"place {start[0]} {start[1]}")
                ways = plan.least_ways(start)
                for goal in pairs:
                    if plan.distance(*goal) != plan.distance(*start):
                        wanted = "other length"
                    else:
                        wanted = str(len(ways[goal])) if goal in ways else decide(railway, start, goal)[0]
                    self.assertEqual(desk.execute(f"to {goal[0]} {goal[1]}"), wanted)


class SideBySide(TrainCase):
    def test_along_drawn_runs(self):
        for seed, (plan, railway) in enumerate(PLANS):
            chance = random.Random(seed)
            for kind in KINDS:
                standing = chance.choice([pair for pair in plan.paths if pair[0] != pair[1]])
                train, desk = new_train(kind, railway, standing), desk_on(plan.tracks, standing)
                first = standing
                for _ in range(10):
                    possible = list(possible_moves(railway, train.standing))
                    if possible and chance.random() < 0.8:
                        move = chance.choice(possible)
                        standing = moved_along(railway, train.standing, (move,))
                        self.assertEqual(tried(train, move), standing)
                        self.assertEqual(train.run(move), standing)
                        answer = desk.execute(f"{move[0]} {move[1]}")
                    elif train.steps:
                        train.undo()
                        answer = desk.execute("undo")
                    else:
                        answer = desk.execute("show")
                    self.assertEqual(answer, standing_text(railway, train.standing))
                    self.assertEqual(moved_along(railway, first, train.steps), train.standing)
                    self.tell_the_same(railway, train, desk)

    def tell_the_same(self, railway, train, desk):
        """Asserts that functions, a train and a desk tell the same."""
        standing = train.standing
        self.assertEqual((train.body, train.span), (body_of(railway, standing), length_of(railway, standing)))
        self.assertEqual(desk.execute("body"), " ".join(map(str, train.body)))
        self.assertEqual(desk.execute("steps"), moves_text(railway, train.steps).replace("\n", " / ") or "none")
        self.assertEqual(desk.execute("save"), train_text(train).replace("\n", " ; "))
        self.assertEqual(desk.execute("turn"), "yes" if can_turn(railway, standing) else "no")
        name, size = pocket(railway, standing), class_size(railway, standing)
        self.assertEqual(train.is_clamped(), name is not None)
        self.assertEqual(is_free(railway, standing), name is None)
        self.assertEqual(desk.execute("class"), f"pocket {name[0]} {name[1]} {size}" if name else f"free {size}")
        self.assertTrue(desk.present_train().is_same(train) and train.is_same(desk.present_train()))
        self.assertTrue(read_train(desk.execute("save").replace(" ; ", "\n")).is_same(train))
        self.assertIn(standing, list(class_of(railway, standing)))

    def test_lengths_and_numbers(self):
        for plan, railway in PLANS:
            desk = desk_on(plan.tracks)
            numbers = (diameter(railway), passing_length(railway), turning_length(railway))
            self.assertEqual(desk.execute("lengths"), " ".join(map(str, numbers)))
            for length, many, clamped, free in length_rows(railway):
                self.assertEqual(desk.execute(f"count {length}"), f"{clamped} {free}")
                self.assertEqual((clamped, free), count_classes(railway, length))
                self.assertEqual(many, len(list(standings(railway, length))))


class Ways(TrainCase):
    def test_ways_lead_trains_and_desks_to_the_goal(self):
        for tracks in TREES:
            railway, desk = Railway(*tracks), desk_on(tracks)
            for length in range(1, diameter(railway) + 1):
                for start in standings(railway, length):
                    for goal in class_of(railway, start):
                        for moves in (tuple(way(railway, start, goal)), shortest_way(railway, start, goal)):
                            self.check_way(railway, desk, start, goal, moves)
                        self.assertEqual(len(moves), fewest_moves(railway, start, goal))

    def check_way(self, railway, desk, start, goal, moves):
        """Asserts that moves lead a train and a desk from a standing to another one, and back."""
        self.assertTrue(leads(railway, start, goal))
        train = new_train(KINDS[len(moves) % 4], railway, start, fuel=2 * len(moves))
        self.assertEqual((tried_all(train, moves), train.standing), (goal, start))
        self.assertEqual((train.run_all(moves), train.steps), (goal, moves))
        desk.execute(f"place {start[0]} {start[1]}")
        if moves:
            self.assertEqual(desk.execute(run_of(moves)), standing_text(railway, goal))
        self.assertEqual(desk.execute("show"), standing_text(railway, goal))
        for _ in moves:
            self.assertEqual(desk.execute("undo"), standing_text(railway, train.undo()))
        self.assertEqual((train.standing, desk.execute("undo")), (start, "nothing to undo"))

    def test_the_number_of_moves_at_a_desk(self):
        for tracks in TREES:
            railway, desk = Railway(*tracks), desk_on(tracks)
            for length in range(1, diameter(railway) + 1):
                for goal in standings(railway, length):
                    start = next(standings(railway, length))
                    desk.execute(f"place {start[0]} {start[1]}")
                    answer = desk.execute(f"to {goal[0]} {goal[1]}")
                    if leads(railway, start, goal):
                        self.assertEqual(answer, str(fewest_moves(railway, start, goal)))
                    else:
                        self.assertEqual(answer, decide(railway, start, goal)[0])


class OtherRailways(TrainCase):
    def test_desks_on_halved_and_renamed_railways(self):
        for plan, railway in PLANS:
            order = tuple(reversed(range(railway.size)))
            for one, other, factor, order in (
                (railway, halved(railway), 2, range(railway.size)), (railway, renamed(railway, order), 1, order),
            ):
                desk, far = desk_on(one.tracks), desk_on(other.tracks)
                for head, tail in [pair for pair in plan.paths if pair[0] != pair[1]]:
                    desk.execute(f"place {head} {tail}")
                    far.execute(f"place {order[head]} {order[tail]}")
                    self.assertEqual(len(far.execute("body").split()) - 1, factor * (len(desk.execute("body").split()) - 1))
                    self.assertEqual(far.execute("turn"), desk.execute("turn"))
                    word, *numbers = desk.execute("class").split()
                    names = [str(order[int(number)]) for number in numbers[:-1]]
                    self.assertEqual(far.execute("class").split()[:-1], [word] + names)


class Texts(TrainCase):
    def test_texts_are_read_as_the_same(self):
        chance = random.Random(1)
        for plan, railway in PLANS:
            self.assertTrue(read_railway(railway_text(railway)).is_same(railway))
            for standing in [pair for pair in plan.paths if pair[0] != pair[1]]:
                self.assertEqual(read_standing(railway, standing_text(railway, standing)), standing)
                moves = shortest_way(railway, standing, chance.choice(list(class_of(railway, standing))))
                self.assertEqual(read_moves(railway, moves_text(railway, moves)), moves)
                train = new_train(KINDS[len(moves) % 4], railway, standing)
                train.run_all(moves)
                other = read_train(train_text(train))
                self.assertEqual((other.standing, other.steps, train_text(other)), (
                    train.standing, train.steps, train_text(train)))

    def test_what_a_desk_saves_is_laid_at_another_one(self):
        for plan, railway in PLANS:
            train = read_train(desk_on(plan.tracks).execute("save").replace(" ; ", "\n"))
            other = desk_on(train.railway.tracks, train.standing)
            self.assertTrue(other.present_train().is_same(train))


class Arguments(TrainCase):
    def test_lists_in_place_of_tuples_stay_as_they_are(self):
        railway = Railway.line(5)
        for call in (
            lambda value: Railway.of(value), lambda value: renamed(railway, value), lambda value: class_size(railway, value),
            lambda value: moves_text(railway, value), lambda value: new_train(KINDS[3], railway, (0, 1)).run_all(value),
            lambda value: tried_all(new_train(KINDS[3], railway, (0, 1)), value), lambda value: standing_text(railway, value),
        ):
            for value in ([0, 1], [1, 0, 2, 3, 4], [("head", 1)], [[0, 1], [1, 2]], [(0, 1)]):
                before = repr(value)
                self.assertRaises(ValueError, call, value)
                self.assertEqual(repr(value), before)

    def test_other_values_are_told_wherever_they_stand(self):
        desk = Desk()
        for value in NO_INTEGERS:
            if not isinstance(value, str):
                self.assertEqual(desk.execute(value), "bad command")

    def test_a_railway_stays_as_it_is(self):
        for plan, railway in PLANS:
            before = (railway.size, railway.tracks)
            desk_on(plan.tracks).execute("class")
            list(length_rows(railway))
            halved(railway)
            self.assertEqual((railway.size, railway.tracks), before)


if __name__ == "__main__":
    unittest.main()
