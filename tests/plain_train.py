"""A plain train, over all paths of a railway, and what the tests of trains share."""

from tests.support import Case, Plan, broom, shapes, some_trees, spider
from treetrain.errors import Blocked, InvalidMove, InvalidStation, NothingToUndo, OutOfFuel, TooShort
from treetrain.railways import Railway
from treetrain.trains import FuelTrain, TouringFuelTrain, TouringTrain, Train

KINDS = (Train, TouringTrain, FuelTrain, TouringFuelTrain)
TOURING = (TouringTrain, TouringFuelTrain)
FUELLED = (FuelTrain, TouringFuelTrain)
PROPERTIES = ("railway", "head", "tail", "standing", "span", "body", "steps")
ERRORS = (Blocked, InvalidMove, InvalidStation, NothingToUndo, OutOfFuel, TooShort)
TREES = shapes(2, 6) + some_trees(9, 4) + [broom(4, 4), spider(2, 2, 2), spider(2, 2, 4)]
PLANS = [(Plan(tracks), Railway(*tracks)) for tracks in TREES]


def new_train(kind, railway, standing, fuel=100):
    """A train of a class, with so much fuel if it has fuel."""
    head, tail = standing
    return kind(railway, head, tail, fuel=fuel) if kind in FUELLED else kind(railway, head, tail)


def names_of(kind):
    """The names of all properties of a class."""
    return PROPERTIES + ("visited",) * (kind in TOURING) + ("fuel", "burnt") * (kind in FUELLED)


def state_of(train):
    """All that the properties of a train tell."""
    return {name: getattr(train, name) for name in names_of(type(train))}


class PlainTrain:
    """What a train of a class is to be, in the plainest way: with all standings since its steps were emptied."""

    def __init__(self, plan, railway, kind, standing, fuel=100):
        self.plan, self.railway, self.kind = plan, railway, kind
        self.standings = [standing]
        self.steps = []
        self.visited = {standing[0]}
        self.fuel = fuel if kind in FUELLED else None
        self.burnt = 0

    def standing(self):
        return self.standings[-1]

    def body(self):
        return self.plan.paths[self.standing()]

    def needs(self, count):
        if self.fuel is not None and self.fuel < count:
            raise OutOfFuel(count)

    def burns(self, count):
        if self.fuel is not None:
            self.fuel -= count
            self.burnt += count

    def is_move(self, move):
        return move[0] in ("head", "tail") and move[1] in self.plan.stations

    def run(self, *moves):
        return self.run_all(moves)

    def run_all(self, moves):
        for index, move in enumerate(moves):
            if not self.is_move(move):
                raise InvalidMove(index)
        self.needs(len(moves))
        found = [self.standing()]
        for index, move in enumerate(moves):
            if move not in self.plan.possible_moves(found[-1]):
                raise Blocked(index)
            found.append(self.plan.moved(found[-1], move))
        self.standings += found[1:]
        self.steps += moves
        self.visited |= {head for head, _ in found}
        self.burns(len(moves))
        return self.standing()

    def ahead(self, station):
        return self.run_all((("head", station),))

    def reverse(self, station):
        return self.run_all((("tail", station),))

    def undo(self):
        if not self.steps:
            raise NothingToUndo(0)
        self.needs(1)
        self.burns(1)
        self.steps.pop()
        self.standings.pop()
        return self.standing()

    def couple(self, station):
        if station not in self.plan.stations:
            raise InvalidStation(station)
        head, tail = self.standing()
        if station not in self.plan.neighbours(tail) or station in self.body():
            raise Blocked(0)
        self.standings, self.steps = [(head, station)], []
        return self.standing()

    def uncouple(self):
        if len(self.body()) == 2:
            raise TooShort(2)
        self.standings, self.steps = [(self.body()[0], self.body()[-2])], []
        return self.standing()

    def is_clamped(self):
        return self.plan.clamps(self.standing()) != ()

    def state(self):
        """All that the properties of a train of the class are to tell."""
        head, tail = self.standing()
        rows = {
            "railway": self.railway, "head": head, "tail": tail, "standing": (head, tail), "span": len(self.body()) - 1,
            "body": self.body(), "steps": tuple(self.steps), "visited": tuple(sorted(self.visited)),
            "fuel": self.fuel, "burnt": self.burnt,
        }
        return {name: rows[name] for name in names_of(self.kind)}


def drawn_moves(plain, chance, most):
    """Up to so many moves that are possible one after the other, and now and then another one."""
    moves, standing = [], plain.standing()
    for _ in range(chance.randint(0, most)):
        possible = plain.plan.possible_moves(standing)
        if not possible or chance.random() < 0.05:
            moves.append((chance.choice(["head", "tail"]), chance.choice([*plain.plan.stations, plain.plan.size, -1])))
            break
        moves.append(chance.choice(possible))
        standing = plain.plan.moved(standing, moves[-1])
    return moves


def drawn_call(plain, chance):
    """The name of a method of trains, and arguments for it."""
    name = chance.choice(["ahead", "reverse", "run", "run", "run_all", "undo", "undo", "couple", "uncouple"])
    if name == "run":
        return name, drawn_moves(plain, chance, 5)
    if name == "run_all":
        return name, [tuple(drawn_moves(plain, chance, 5))]
    if name in ("undo", "uncouple"):
        return name, []
    end = {"ahead": 0, "reverse": -1, "couple": -1}[name]
    near = [x for x in plain.plan.neighbours(plain.body()[end]) if x not in plain.body()]
    return name, [chance.choice(near if near and chance.random() < 0.8 else [*plain.plan.stations, plain.plan.size, -1])]


class TrainCase(Case):
    """A test case that runs trains and plain trains side by side."""

    def same_call(self, train, plain, name, values):
        """Asserts that a call of a train gives what the same call of a plain train gives, and leads to the same."""
        try:
            wanted = getattr(plain, name)(*values)
        except ERRORS as error:
            self.fails(error, getattr(train, name), *values)
        else:
            self.assertEqual(getattr(train, name)(*values), wanted)
        self.assertEqual(state_of(train), plain.state())

    def pairs(self, fuel=100):
        """For each class and some railways a train and a plain train on each of some standings."""
        for kind in KINDS:
            for plan, railway in PLANS:
                for length in plan.lengths():
                    found = plan.standings(length)
                    for standing in (found[0], found[len(found) // 2]):
                        yield new_train(kind, railway, standing, fuel), PlainTrain(plan, railway, kind, standing, fuel)
