"""A plain desk, over a plain train and a search that makes all possible moves."""

import re

from tests.plain_texts import joined_to, train_rows
from tests.plain_train import PlainTrain
from tests.support import Plan
from treetrain.deciding import decide
from treetrain.errors import Blocked, InvalidMove, InvalidStation, NothingToUndo, TooShort
from treetrain.railways import Railway
from treetrain.trains import Train

NUMBER = "(?:0|[1-9][0-9]{0,3})"
PATTERNS = [pattern.replace("N", NUMBER) for pattern in (
    "railway N N(?: / N N)*", "place N N", "head N", "tail N", "run (?:head|tail) N(?: / (?:head|tail) N)*", "undo",
    "couple N", "uncouple", "show", "body", "steps", "class", "to N N", "turn", "lengths", "count N", "save",
)]
COMMANDS = ("railway", "place", "head", "tail", "run", "undo", "couple", "uncouple", "show", "body", "steps", "class", "to",
            "turn", "lengths", "count", "save")


def is_command(value):
    return isinstance(value, str) and any(re.fullmatch(pattern, value) for pattern in PATTERNS)


def is_railway(tracks):
    """Tells whether tracks join all stations without a ring."""
    size = len(tracks) + 1
    if size > 100 or any(a == b or max(a, b) >= size for a, b in tracks):
        return False
    return len(set(joined_to(tracks, 0))) == size


class PlainDesk:
    """A desk as its table says, for small railways."""

    def __init__(self):
        self.lay([(0, 1)])

    def lay(self, tracks):
        self.plan = Plan(tuple(sorted((min(track), max(track)) for track in tracks)))
        self.railway = Railway(*tracks)
        self.place((0, self.plan.neighbours(0)[0]))

    def place(self, standing):
        self.train = PlainTrain(self.plan, self.railway, Train, standing)

    def is_standing(self, numbers):
        return numbers[0] != numbers[1] and max(numbers) < self.plan.size

    def execute(self, command):
        if not is_command(command):
            return "bad command"
        word, *rest = command.split(" ")
        numbers = [int(part) for part in rest if part.isdigit()]
        return getattr(self, "do_" + word)(command, numbers)

    def do_railway(self, command, numbers):
        tracks = list(zip(numbers[0::2], numbers[1::2]))
        if not is_railway(tracks):
            return "bad railway"
        self.lay(tracks)
        return "done"

    def do_place(self, command, numbers):
        if not self.is_standing(numbers):
            return "bad standing"
        self.place(tuple(numbers))
        return "done"

    def do_show(self, command, numbers):
        return f"{self.train.standing()[0]} {self.train.standing()[1]}"

    def made(self, name, *values):
        try:
            getattr(self.train, name)(*values)
        except (InvalidMove, InvalidStation):
            return "bad station"
        except Blocked:
            return "not possible"
        except NothingToUndo:
            return "nothing to undo"
        except TooShort:
            return "too short"
        return self.do_show(None, None)

    def do_head(self, command, numbers):
        return self.made("ahead", numbers[0])

    def do_tail(self, command, numbers):
        return self.made("reverse", numbers[0])

    def do_run(self, command, numbers):
        return self.made("run", *zip(re.findall("head|tail", command), numbers))

    def do_undo(self, command, numbers):
        return self.made("undo")

    def do_couple(self, command, numbers):
        return self.made("couple", numbers[0])

    def do_uncouple(self, command, numbers):
        return self.made("uncouple")

    def do_body(self, command, numbers):
        return " ".join(str(station) for station in self.train.body())

    def do_steps(self, command, numbers):
        return " / ".join(f"{end} {x}" for end, x in self.train.steps) if self.train.steps else "none"

    def do_class(self, command, numbers):
        many = len(self.plan.least_ways(self.train.standing()))
        clamps = self.plan.clamps(self.train.standing())
        if not clamps:
            return f"free {many}"
        u, v = max(clamps, key=lambda pair: self.plan.distance(*pair))
        return f"pocket {u} {v} {many}"

    def do_to(self, command, numbers):
        start, goal = self.train.standing(), tuple(numbers)
        if not self.is_standing(goal):
            return "bad standing"
        if self.plan.distance(*start) != self.plan.distance(*goal):
            return "other length"
        if self.plan.size > 40:
            return "too many"
        ways = self.plan.least_ways(start)
        return str(len(ways[goal])) if goal in ways else decide(self.railway, start, goal)[0]

    def do_turn(self, command, numbers):
        start = self.train.standing()
        return "yes" if start[::-1] in self.plan.least_ways(start) else "no"

    def do_lengths(self, command, numbers):
        passing, turning = [max([k for k in self.plan.lengths() if self.plan.trunk(k, n)], default=0) for n in (2, 3)]
        return f"{self.plan.diameter()} {passing} {turning}"

    def do_count(self, command, numbers):
        if numbers[0] == 0:
            return "bad length"
        groups = self.plan.classes(numbers[0])
        free = len([group for group in groups if not self.plan.clamps(group[0])])
        return f"{len(groups) - free} {free}"

    def do_save(self, command, numbers):
        return " ; ".join(train_rows(self.plan.tracks, self.train.standings[0], self.train.steps))
