"""What changes about a train while it runs, in one object, so that all of it can be put back at once."""

from treetrain.errors import NothingToUndo, OutOfFuel


class Course:
    """The bodies of a train since its steps were emptied, the moves between them, its head's places, and its fuel."""

    def __init__(self, body, left):
        self.bodies = [body]
        self.moves = []
        self.places = {body[0]: True}
        # None if moves need no fuel.
        self.left = left
        self.used = 0

    def check_fuel(self, count):
        """Raises OutOfFuel if there is not enough fuel for so many moves."""
        if self.left is not None and self.left < count:
            raise OutOfFuel(count)

    def go_on(self, moves, bodies):
        """Adds moves, for which there is enough fuel, and the bodies after each of them."""
        self.moves.extend(moves)
        self.bodies.extend(bodies)
        for body in bodies:
            self.places[body[0]] = True
        self._burn(len(moves))

    def go_back(self):
        """Takes the last move back."""
        if not self.moves:
            raise NothingToUndo(0)
        self.check_fuel(1)
        del self.moves[-1]
        del self.bodies[-1]
        self._burn(1)

    def begin_again(self, body):
        """Empties the moves; the head stays where it is."""
        self.moves = []
        self.bodies = [body]

    def copy(self):
        """An independent course in the same state."""
        other = Course(self.bodies[0], self.left)
        other.bodies = list(self.bodies)
        other.moves = list(self.moves)
        other.places = dict(self.places)
        other.used = self.used
        return other

    def _burn(self, count):
        """Uses the fuel for so many moves."""
        if self.left is not None:
            self.left -= count
            self.used += count
