"""The desk and its commands, against a plain desk."""

import random
import unittest

from tests.plain_desk import COMMANDS, PlainDesk, is_command
from tests.plain_train import drawn_moves, state_of
from tests.support import Plan, all_trees, broom, shapes, some_trees, spider
from treetrain.desk import Desk
from treetrain.railways import Railway
from treetrain.trains import Train

LEGS = "railway 0 1 / 1 2 / 0 3 / 3 4 / 0 5 / 5 6"
NO_COMMANDS = (
    None, True, False, 0, 1, (), ("show",), [], ["show"], {}, {"show": 1}, Railway(), Train(Railway.line(2), 0, 1),
    "", " ", "  ", "\n", "/", " / ", "0", "0 1", "jump", "Show", "SHOW", "shows", "sho", "show ", " show", " show ", "show\n",
    "\nshow", "show 1", "show show", "show /", "show\t", "undo 1", "undo undo", "uncouple 1", "un couple", "body 0",
    "steps 1", "steps none", "class 1", "class 0 1", "turn yes", "turn 0 1", "lengths 1", "save all", "save ;", "save 1",
    "place", "place ", "place 0", "place 0 ", "place 0  1", "place  0 1", "place 0 1 ", "place 0 1 2", "place a b",
    "place 0 b", "place 0 01", "place 00 1", "place -0 1", "place +0 1", "place 0 -1", "place 0 10000", "place 0 1 /",
    "place 0 / 1", "place 0,1", "place\t0 1", "place 0\n1", "place 0.0 1", "place 0_1 1", "place 0x0 1", "places 0 1",
    "head", "head ", "head  1", "head 1 ", "head 1 2", "head x", "head 01", "head -1", "head 10000", "head 12345", "head /",
    "head head 1", "head 1 / tail 2", "tail", "tail ", "tail 1 2", "tail one", "tail 00", "tail 99999", "up 1", "HEAD 1",
    "run", "run ", "run /", "run / ", "run / /", "run 1", "run head", "run head /", "run head 1 /", "run head 1 / ",
    "run / head 1", "run head 1 / / tail 1", "run head 1 tail 1", "run head 1/ tail 1", "run head 1 /tail 1",
    "run head 1/tail 1", "run head 1 / tail", "run head 1 / tail 1 /", "run head 1  / tail 1", "run up 1", "run head 01",
    "run head 1 / tail 01", "run head 10000", "run head 1 2", "run head 1 / 2", "run 1 head", "run head 1 | tail 1",
    "run head 1 ; tail 1", "run head x", "run head 1 / run tail 1", "run head -1", "run run", "run head tail", "run 1 1",
    "couple", "couple ", "couple x", "couple 1 2", "couple 01", "couple 10000", "couple -1", "couple  1", "couple head 1",
    "to", "to 0", "to 0 1 2", "to 0 x", "to 0 01", "to 0 10000", "to  0 1", "to 0 1 ", "to head 1", "to 0 / 1", "two 0 1",
    "count", "count ", "count L", "count 1 2", "count 01", "count 00", "count -1", "count 10000", "count 1 ", "counts 1",
    "railway", "railway ", "railway /", "railway / /", "railway 0", "railway 0 1 /", "railway / 0 1", "railway 0 1 / ",
    "railway 0 1 / 1", "railway 0 1 1 2", "railway 0 1 / / 1 2", "railway 0 1/1 2", "railway 0 1 / 1 2 /", "railway 2",
    "railway 0 01", "railway 00 1", "railway 0 10000", "railway 0 -1", "railway 0 1 / 1 x", "railway a b", "railway 0  1",
    "railway 0 1  / 1 2", "railway 0 1 /  1 2", "railway head 1", "railway 0 1 ; 1 2", "railway 0 1\n/ 1 2", "railway 0 /",
    "railway track 0 1", "railway 2 track 0 1", "railway 0 1 2",
)
# Each has at least two reasons to be refused, of which the first one is told, and is put right step by step.
TWO_REASONS = (
    # A train of two tracks, with the tail at the end of a line of three stations more.
    (("railway 0 1 / 1 2 / 2 3 / 3 4", "place 0 2"), (
        ("railway 0 1 / 0 1 /", "bad command"), ("railway 0 0 / 0 01", "bad command"), ("railway 0 5 / x 1", "bad command"),
        ("railway 0 1 / 0 1", "bad railway"), ("railway 0 9999", "bad railway"), ("railway 1 1", "bad railway"),
        ("place 9 09", "bad command"), ("place 1 1 1", "bad command"), ("place 9 9", "bad standing"),
        ("head 09", "bad command"), ("head 4 4", "bad command"), ("head 5", "bad station"), ("head 9999", "bad station"),
        ("head 4", "not possible"), ("head 0", "not possible"), ("head 1", "not possible"), ("head 2", "not possible"),
        ("tail 05", "bad command"), ("tail 5", "bad station"), ("tail 4", "not possible"), ("tail 1", "not possible"),
        ("run head 4 / up 9", "bad command"), ("run head 9 / tail 03", "bad command"), ("run head 4 /", "bad command"),
        ("run head 4 / tail 9", "bad station"), ("run tail 3 / head 0 / head 5", "bad station"),
        ("run head 4 / tail 3", "not possible"), ("run tail 3 / tail 3", "not possible"),
        ("run tail 3 / tail 4 / tail 4", "not possible"), ("run tail 3 / head 0 / head 0", "not possible"),
        ("undo 1", "bad command"), ("undo", "nothing to undo"),
        ("couple 09", "bad command"), ("couple 5", "bad station"), ("couple 9999", "bad station"),
        ("couple 4", "not possible"), ("couple 1", "not possible"), ("couple 2", "not possible"),
        ("to 0 01", "bad command"), ("to 9 9 9", "bad command"), ("to 9 9", "bad standing"), ("to 1 1", "bad standing"),
        ("to 5 2", "bad standing"), ("to 2 1", "other length"), ("to 4 0", "other length"),
        ("count 00", "bad command"), ("count 0 0", "bad command"), ("count 0", "bad length"),
        ("turn 1", "bad command"), ("class x", "bad command"), ("save 1 2", "bad command"), ("lengths 0", "bad command"),
        ("show 0", "bad command"), ("body 0", "bad command"), ("steps /", "bad command"),
    )),
    (("place 0 1",), (
        ("uncouple 1", "bad command"), ("uncouple", "too short"), ("undo", "nothing to undo"),
        ("head 2", "bad station"), ("head 1", "not possible"), ("couple 2", "bad station"), ("couple 0", "not possible"),
        ("to 0 0", "bad standing"), ("to 1 2", "bad standing"), ("to 1 0", "clamp"),
    )),
)


def drawn_command(plain, chance):
    """A command for a plain desk, which is refused now and then."""
    stations = [*plain.plan.stations, *plain.plan.stations, plain.plan.size]
    word = chance.choice(COMMANDS)
    if word == "railway":
        if chance.random() < 0.5:
            tracks = chance.choice(all_trees(chance.choice([2, 3, 4])) + shapes(5, 6))
            tracks = [chance.choice([track, track[::-1]]) for track in chance.sample(tracks, len(tracks))]
        else:
            tracks = [(chance.randrange(4), chance.randrange(4)) for _ in range(chance.randint(1, 3))]
        return "railway " + " / ".join(f"{a} {b}" for a, b in tracks)
    if word in ("place", "to"):
        return f"{word} {chance.choice(stations)} {chance.choice(stations)}"
    if word == "run":
        moves = drawn_moves(plain.train, chance, 5)
        return "run " + " / ".join(f"{end} {x}" for end, x in moves)
    if word in ("head", "tail", "couple"):
        body = plain.train.body()
        near = [x for x in plain.plan.neighbours(body[0] if word == "head" else body[-1]) if x not in body]
        return f"{word} {chance.choice(near if near and chance.random() < 0.8 else stations)}"
    return f"count {chance.randrange(8)}" if word == "count" else word


def spoiled(command, chance):
    """A command in which one sign or one word is replaced, inserted or removed."""
    if chance.random() < 0.5:
        at = chance.randrange(len(command) + 1)
        return command[:at] + chance.choice(["", " ", "0", "1", "/", "x", "\n"]) + command[at + chance.randrange(2):]
    words = command.split(" ")
    at = chance.randrange(len(words) + 1)
    words[at:at + chance.randrange(2)] = chance.choice([[], ["/"], ["0"], ["1"], ["head"], ["tail"], [""], ["run"]])
    return " ".join(words)


class DeskCase(unittest.TestCase):
    def told(self, desk):
        """All that a desk tells of its train."""
        return [desk.execute(word) for word in ("show", "body", "steps", "save")], state_of(desk.present_train())

    def is_refused(self, desk, command, answer):
        """Asserts that a command is refused with this answer, and changes nothing."""
        before = self.told(desk)
        self.assertEqual(desk.execute(command), answer, command)
        self.assertEqual(self.told(desk), before, command)

    def desk(self, *commands):
        """A desk behind some commands, none of which is refused."""
        desk = Desk()
        refusals = ("bad", "not", "nothing", "too", "other")
        for command in commands:
            self.assertNotIn(desk.execute(command).split(" ")[0], refusals, command)
        return desk

    def answers(self, desk, rows):
        """Asserts the answers to commands, one after the other."""
        for command, answer in rows:
            self.assertEqual(desk.execute(command), answer, command)


class Commands(DeskCase):
    def test_at_first(self):
        rows = (
            ("show", "0 1"), ("body", "0 1"), ("steps", "none"), ("class", "pocket 0 1 1"), ("lengths", "1 0 0"),
            ("save", "railway 2 ; track 0 1 ; train 0 1"), ("turn", "no"), ("count 1", "2 0"), ("to 0 1", "0"),
        )
        self.answers(Desk(), rows)

    def test_railway(self):
        desk = Desk()
        rows = (
            ("railway 0 1", "done"), ("save", "railway 2 ; track 0 1 ; train 0 1"), ("railway 2 1 / 0 2", "done"),
            ("save", "railway 3 ; track 0 2 ; track 1 2 ; train 0 2"), ("tail 1", "2 1"),
            ("railway 3 0 / 0 2 / 1 0", "done"), ("show", "0 1"), ("steps", "none"), ("undo", "nothing to undo"),
            ("save", "railway 4 ; track 0 1 ; track 0 2 ; track 0 3 ; train 0 1"),
        )
        self.answers(desk, rows)

    def test_bad_railways(self):
        desk = self.desk(LEGS, "head 3", "place 4 0", "tail 1")
        for tracks in ("0 0", "1 1", "0 2", "2 3", "0 1 / 1 0", "0 1 / 0 1", "0 1 / 2 3", "0 1 / 1 3", "0 1 / 2 2", "9999 0",
                       "0 1 / 1 2 / 2 0", "0 1 / 1 2 / 0 2 / 3 4", "1 2 / 2 3 / 3 1"):
            self.is_refused(desk, "railway " + tracks, "bad railway")

    def test_great_railways(self):
        desk = Desk()
        star = " / ".join(f"0 {k}" for k in range(1, 101))
        self.is_refused(desk, "railway " + star, "bad railway")
        self.is_refused(desk, "railway " + " / ".join(["0 1"] * 2000), "bad railway")
        rows = (
            ("railway " + star.rpartition(" / ")[0], "done"), ("show", "0 1"), ("place 99 98", "done"),
            ("class", "pocket 99 98 1"), ("place 100 0", "bad standing"), ("tail 100", "bad station"),
            ("uncouple", "99 0"), ("class", "free 198"), ("tail 50", "0 50"), ("count 2", "9702 0"), ("lengths", "2 1 1"),
            ("turn", "yes"), ("to 50 0", "too many"),
        )
        self.answers(desk, rows)

    def test_place(self):
        desk = self.desk(LEGS, "head 3")
        self.answers(desk, (("steps", "head 3"), ("place 2 4", "done"), ("show", "2 4"), ("steps", "none")))
        self.answers(desk, (("body", "2 1 0 3 4"), ("save", self.saved("2 4")), ("undo", "nothing to undo")))
        for numbers in ("0 0", "6 6", "0 7", "7 0", "7 7", "9999 0", "0 1000"):
            self.is_refused(desk, "place " + numbers, "bad standing")

    def saved(self, *rows):
        """The answer to save on the railway with three legs."""
        start = "railway 7 ; track 0 1 ; track 0 3 ; track 0 5 ; track 1 2 ; track 3 4 ; track 5 6 ; train "
        return start + " ; ".join(rows)

    def test_moves_and_steps(self):
        rows = (
            ("show", "0 1"), ("head 3", "3 0"), ("head 4", "4 3"), ("tail 0", "3 0"), ("steps", "head 3 / head 4 / tail 0"),
            ("save", self.saved("0 1", "head 3", "head 4", "tail 0")), ("undo", "4 3"), ("undo", "3 0"), ("tail 5", "0 5"),
            ("steps", "head 3 / tail 5"), ("run head 1 / tail 3 / tail 4", "3 4"),
            ("steps", "head 3 / tail 5 / head 1 / tail 3 / tail 4"), ("run tail 4", "not possible"), ("undo", "0 3"),
            ("run head 9", "bad station"), ("run head 1 / head 2 / head 2", "not possible"), ("show", "0 3"),
            ("save", self.saved("0 1", "head 3", "tail 5", "head 1", "tail 3")), ("body", "0 3"),
        )
        self.answers(self.desk(LEGS), rows)

    def test_coupling(self):
        rows = (
            ("head 3", "3 0"), ("couple 5", "3 5"), ("steps", "none"), ("undo", "nothing to undo"), ("body", "3 0 5"),
            ("couple 6", "3 6"), ("couple 6", "not possible"), ("tail 1", "not possible"), ("head 4", "4 5"),
            ("uncouple", "4 0"), ("steps", "none"), ("uncouple", "4 3"), ("uncouple", "too short"), ("couple 0", "4 0"),
            ("save", self.saved("4 0")), ("couple 7", "bad station"), ("couple 3", "not possible"), ("couple 5", "4 5"),
        )
        self.answers(self.desk(LEGS), rows)

    def test_classes_and_lengths(self):
        rows = (
            ("class", "free 12"), ("turn", "yes"), ("lengths", "4 2 2"), ("count 1", "0 1"), ("count 2", "0 1"),
            ("couple 2", "0 2"), ("class", "free 12"), ("turn", "yes"), ("to 2 0", "6"), ("to 0 2", "0"),
            ("place 2 3", "done"), ("class", "pocket 1 3 2"), ("turn", "no"), ("to 3 2", "clamp"), ("to 1 4", "1"),
            ("count 3", "6 0"), ("count 4", "6 0"), ("count 5", "0 0"), ("count 9999", "0 0"), ("count 0", "bad length"),
        )
        self.answers(self.desk(LEGS), rows)
        rows = (("to 2 0", "divide"), ("turn", "no"), ("class", "free 3"), ("to 2 4", "2"), ("lengths", "4 2 0"))
        self.answers(self.desk("railway 0 1 / 1 2 / 2 3 / 3 4", "place 0 2"), rows)

    def test_forty_and_more_stations(self):
        line = "railway " + " / ".join(f"{k} {k + 1}" for k in range(39))
        rows = (("to 20 21", "20"), ("to 21 20", "divide"), ("to 38 40", "bad standing"), ("to 0 2", "other length"))
        self.answers(self.desk(line), rows)
        rows = (("place 0 30", "done"), ("to 9 39", "9"), ("to 30 0", "clamp"), ("to 0 40", "bad standing"))
        self.answers(self.desk(line), rows)
        desk = self.desk(line + " / 39 40")
        rows = (
            ("to 20 21", "too many"), ("to 0 1", "too many"), ("to 1 0", "too many"), ("to 40 41", "bad standing"),
            ("to 0 0", "bad standing"), ("to 0 2", "other length"), ("place 0 30", "done"), ("to 30 0", "too many"),
            ("to 0 30", "too many"), ("to 1 0", "other length"), ("turn", "no"), ("class", "pocket 10 30 11"),
        )
        self.answers(desk, rows)

    def test_each_command_that_asks_changes_nothing(self):
        desk = self.desk(LEGS, "head 3", "tail 5")
        for command in ("show", "body", "steps", "class", "to 1 0", "to 2 4", "turn", "lengths", "count 2", "save"):
            before = self.told(desk)
            desk.execute(command)
            self.assertEqual(self.told(desk), before, command)

    def test_commands_by_name(self):
        self.assertEqual(Desk().execute(command="show"), "0 1")


class Refusals(DeskCase):
    def test_no_commands(self):
        for commands in ((), (LEGS, "head 3", "tail 5")):
            desk = self.desk(*commands)
            for value in NO_COMMANDS:
                self.assertFalse(is_command(value))
                self.is_refused(desk, value, "bad command")

    def test_the_first_of_two_reasons(self):
        for commands, rows in TWO_REASONS:
            desk = self.desk(*commands)
            for command, answer in rows:
                self.is_refused(desk, command, answer)

    def test_nothing_changes_behind_steps(self):
        desk = self.desk(*TWO_REASONS[0][0], "tail 3", "head 0")
        for command, answer in TWO_REASONS[0][1]:
            if command != "undo":
                self.is_refused(desk, command, answer)
        self.answers(desk, (("undo", "1 3"), ("undo", "0 2"), ("undo", "nothing to undo")))

    def test_every_word_with_every_few_words_behind_it(self):
        for word in COMMANDS:
            for rest in ("", " 0", " 0 0", " 0 1", " 0 0 0", " head 0", " head 0 / tail 9", " 0 1 / 0 1", " /", " ", " x"):
                self.assertEqual(Desk().execute(word + rest), PlainDesk().execute(word + rest), word + rest)


class Several(DeskCase):
    def test_answers_to_several_commands(self):
        desk = Desk()
        rows = desk.execute_all(LEGS, "head 3", "jump", None, "steps")
        self.assertEqual(list(rows), ["done", "3 0", "bad command", "bad command", "head 3"])
        self.assertEqual(list(desk.execute_all()), [])
        self.assertEqual(list(desk.execute_all(["show"])), ["bad command"])

    def test_a_command_is_executed_when_its_answer_is_requested(self):
        desk = self.desk(LEGS)
        rows = desk.execute_all("head 3", "head 4", "undo", "show")
        self.assertEqual(desk.execute("show"), "0 1")
        self.assertEqual((next(rows), desk.execute("show")), ("3 0", "3 0"))
        self.assertEqual((next(rows), desk.execute("show")), ("4 3", "4 3"))
        self.assertEqual((desk.execute("place 6 5"), next(rows)), ("done", "nothing to undo"))
        self.assertEqual((next(rows), list(rows)), ("6 5", []))
        self.assertRaises(StopIteration, next, rows)

    def test_two_desks(self):
        one, other = self.desk(LEGS), self.desk(LEGS)
        one.execute("head 3")
        self.assertEqual((one.execute("show"), other.execute("show"), Desk().execute("show")), ("3 0", "0 1", "0 1"))


class Trains(DeskCase):
    def test_the_train_is_a_copy(self):
        desk = self.desk(LEGS, "head 3", "tail 5")
        before = self.told(desk)
        train = desk.present_train()
        self.assertIs(type(train), Train)
        self.assertEqual((train.standing, train.steps), ((0, 5), (("head", 3), ("tail", 5))))
        self.assertEqual(train.railway.tracks, ((0, 1), (0, 3), (0, 5), (1, 2), (3, 4), (5, 6)))
        train.undo()
        train.uncouple() if train.span > 1 else train.couple(1)
        self.assertEqual(self.told(desk), before)
        train = desk.present_train()
        desk.execute("undo")
        self.assertEqual(train.standing, (0, 5))
        self.assertIsNot(desk.present_train(), desk.present_train())


class Runs(DeskCase):
    def same_answers(self, desk, plain, command):
        """Asserts that a desk answers as a plain desk, and has the same train behind it."""
        self.assertEqual(desk.execute(command), plain.execute(command), command)
        self.assertEqual(state_of(desk.present_train()), dict(plain.train.state(), railway=desk.present_train().railway))
        self.assertTrue(desk.present_train().railway.is_same(plain.railway))

    def test_drawn_runs(self):
        for seed in range(60):
            chance = random.Random(seed)
            desk, plain = Desk(), PlainDesk()
            for _ in range(60):
                self.same_answers(desk, plain, drawn_command(plain, chance))

    def test_drawn_runs_with_spoiled_commands(self):
        for seed in range(60):
            chance = random.Random(seed)
            desk, plain = Desk(), PlainDesk()
            for _ in range(60):
                command = drawn_command(plain, chance)
                self.same_answers(desk, plain, spoiled(command, chance) if chance.random() < 0.5 else command)

    def test_drawn_runs_on_greater_railways(self):
        for tracks in some_trees(10, 3) + [broom(5, 5), spider(2, 2, 4), spider(1, 1, 2, 2, 3)]:
            chance = random.Random(len(tracks))
            desk, plain = Desk(), PlainDesk()
            self.same_answers(desk, plain, "railway " + " / ".join(f"{a} {b}" for a, b in tracks))
            for _ in range(60):
                command = drawn_command(plain, chance)
                if not command.startswith("railway"):
                    self.same_answers(desk, plain, command)
            self.assertEqual(plain.plan.tracks, Plan(tuple(sorted(tracks))).tracks)


if __name__ == "__main__":
    unittest.main()
