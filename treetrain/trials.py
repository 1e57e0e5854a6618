"""Moves that are made only to see where they lead."""


class Held:
    """The course of a train at the beginning of a block, and what was held when that block began."""

    def __init__(self, course, older):
        self.course = course
        self.older = older


class Trial:
    """A context manager: at the end of the block the train is as it was at its beginning."""

    def __init__(self, train):
        self._train = train
        self._held = None

    def __enter__(self):
        """Remembers the train, and returns it."""
        self._held = Held(self._train.course.copy(), self._held)
        return self._train

    def __exit__(self, kind, value, trace):
        """Restores the train; an error goes on to the caller."""
        train = self._train
        train.course = self._held.course
        self._held = self._held.older


def tried(train, *moves):
    """The standing that the moves lead a train to, which stays as it is."""
    return tried_all(train, moves)


def tried_all(train, moves):
    """The standing that a tuple of moves leads a train to, which stays as it is."""
    with Trial(train):
        return train.run_all(moves)
