"""Train objects: they run, take moves back, are lengthened and shortened, remember stations, and burn fuel."""

from treetrain.checks import check_station, is_integer
from treetrain.climbing import is_free
from treetrain.courses import Course
from treetrain.errors import Blocked, InvalidCount, TooShort
from treetrain.standings import bodies_along, body_of, check_moves


class Train:
    """A train on a railway. All that changes about it is its course."""

    def __init__(self, railway, head, tail):
        self._railway = railway
        self.course = Course(body_of(railway, (head, tail)), None)

    @property
    def railway(self):
        """The railway."""
        return self._railway

    @property
    def head(self):
        """The station of the head."""
        return self.body[0]

    @property
    def tail(self):
        """The station of the tail."""
        return self.body[-1]

    @property
    def standing(self):
        """The pair of the head and the tail."""
        return self.head, self.tail

    @property
    def span(self):
        """The length."""
        return len(self.body) - 1

    @property
    def body(self):
        """The path from the head to the tail."""
        return self.course.bodies[-1]

    @property
    def steps(self):
        """The tuple of the moves that were made and not taken back."""
        return tuple(self.course.moves)

    def ahead(self, station):
        """Moves the head to a station, and returns the new standing."""
        return self.run_all((("head", station),))

    def reverse(self, station):
        """Moves the tail to a station, and returns the new standing."""
        return self.run_all((("tail", station),))

    def run(self, *moves):
        """Makes all these moves or none, and returns the new standing."""
        return self.run_all(moves)

    def run_all(self, moves):
        """Makes all moves of a tuple or none, and returns the new standing."""
        # Moves that are none are told before missing fuel, and moves that are not possible behind it.
        check_moves(self.railway, moves)
        self.course.check_fuel(len(moves))
        bodies = bodies_along(self.railway, self.standing, moves)
        self.course.go_on(moves, bodies[1:])
        return self.standing

    def undo(self):
        """Takes back the last step, and returns the new standing."""
        self.course.go_back()
        return self.standing

    def couple(self, station):
        """Lengthens the train by a station behind its tail, and returns the new standing."""
        check_station(self.railway, station)
        if station not in self.railway.neighbours(self.tail) or station in self.body:
            raise Blocked(0)
        self.course.begin_again(self.body + (station,))
        return self.standing

    def uncouple(self):
        """Shortens the train by its tail, and returns the new standing."""
        if self.span < 2:
            raise TooShort(2)
        self.course.begin_again(self.body[:-1])
        return self.standing

    def is_clamped(self):
        """Tells whether the standing is clamped."""
        return not is_free(self.railway, self.standing)

    def copy(self):
        """An independent train of the same class in the same state."""
        return self._shared_with(Train(self.railway, self.head, self.tail))

    def is_same(self, other):
        """Tells whether another value is a train with the same standing on a railway with the same tracks."""
        if not isinstance(other, Train):
            return False
        return self.standing == other.standing and self.railway.is_same(other.railway)

    def _shared_with(self, other):
        """Another train of the same class, in the state of this one."""
        other.course = self.course.copy()
        return other


class TouringTrain(Train):
    """A train that remembers the stations at which its head has been."""

    def __init__(self, railway, head, tail):
        Train.__init__(self, railway, head, tail)

    @property
    def visited(self):
        """The ascending tuple of the stations at which the head has been."""
        return tuple(sorted(self.course.places))

    def copy(self):
        """An independent train of the same class in the same state."""
        return self._shared_with(TouringTrain(self.railway, self.head, self.tail))


class FuelTrain(Train):
    """A train that burns fuel, one unit for each move, also for one that takes a move back."""

    def __init__(self, railway, head, tail, *, fuel=100):
        Train.__init__(self, railway, head, tail)
        if not is_integer(fuel) or fuel < 0:
            raise InvalidCount(fuel)
        self.course = Course(self.body, fuel)

    @property
    def fuel(self):
        """The fuel that is left."""
        return self.course.left

    @property
    def burnt(self):
        """The fuel that has been used."""
        return self.course.used

    def copy(self):
        """An independent train of the same class in the same state."""
        return self._shared_with(FuelTrain(self.railway, self.head, self.tail))


class TouringFuelTrain(TouringTrain, FuelTrain):
    """A train that remembers the stations at which its head has been, and burns fuel."""

    def __init__(self, railway, head, tail, *, fuel=100):
        FuelTrain.__init__(self, railway, head, tail, fuel=fuel)

    @property
    def visited(self):
        """The ascending tuple of the stations at which the head has been."""
        return tuple(sorted(self.course.places))

    @property
    def fuel(self):
        """The fuel that is left."""
        return self.course.left

    @property
    def burnt(self):
        """The fuel that has been used."""
        return self.course.used

    def copy(self):
        """An independent train of the same class in the same state."""
        return self._shared_with(TouringFuelTrain(self.railway, self.head, self.tail))
