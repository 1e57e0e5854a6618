"""The desk: a train that is run by commands, which are strings, and answers with strings."""

from treetrain.classes import class_size, count_classes
from treetrain.climbing import pocket
from treetrain.commands import read_command
from treetrain.depths import diameter
from treetrain.errors import (
    Blocked, InvalidLength, InvalidMove, InvalidStanding, InvalidStation, InvalidTracks, NothingToUndo, NoWay,
    OtherLength, TooMany, TooShort,
)
from treetrain.lengths import can_turn, passing_length, turning_length
from treetrain.railways import Railway
from treetrain.texts import moves_text, standing_text, train_text
from treetrain.trains import Train
from treetrain.ways import fewest_moves


def _on_railway(_, tracks):
    """A train on a new railway; of the train before nothing is left."""
    railway = Railway.of(tracks)
    return Train(railway, 0, railway.neighbours(0)[0])


def _placed(train, standing):
    """A train on the same railway with another standing."""
    head, tail = standing
    return Train(train.railway, head, tail)


def _show(train, _):
    """The text of the standing."""
    return standing_text(train.railway, train.standing)


def _run(train, moves):
    """The text of the standing after the moves."""
    return standing_text(train.railway, train.run_all(moves))


def _head(train, parts):
    """The text of the standing after a move of the head."""
    return _run(train, (("head", parts[0]),))


def _tail(train, parts):
    """The text of the standing after a move of the tail."""
    return _run(train, (("tail", parts[0]),))


def _undo(train, _):
    """The text of the standing after the last step has been taken back."""
    return standing_text(train.railway, train.undo())


def _couple(train, parts):
    """The text of the standing of the lengthened train."""
    return standing_text(train.railway, train.couple(parts[0]))


def _uncouple(train, _):
    """The text of the standing of the shortened train."""
    return standing_text(train.railway, train.uncouple())


def _body(train, _):
    """The stations of the body."""
    return _words(train.body)


def _steps(train, _):
    """The texts of the steps."""
    return moves_text(train.railway, train.steps).replace("\n", " / ") or "none"


def _class(train, _):
    """The pocket, if there is one, and the number of standings of the class."""
    size = class_size(train.railway, train.standing)
    pair = pocket(train.railway, train.standing)
    return f"free {size}" if pair is None else f"pocket {pair[0]} {pair[1]} {size}"


def _to(train, goal):
    """The fewest moves to a standing, or why there is no way."""
    try:
        return str(fewest_moves(train.railway, train.standing, goal))
    except NoWay as error:
        return error.reason[0]


def _turn(train, _):
    """Whether head and tail can be exchanged."""
    return "yes" if can_turn(train.railway, train.standing) else "no"


def _lengths(train, _):
    """The diameter, the passing length and the turning length."""
    return _words((diameter(train.railway), passing_length(train.railway), turning_length(train.railway)))


def _count(train, parts):
    """The numbers of clamped and of free classes."""
    return _words(count_classes(train.railway, parts[0]))


def _save(train, _):
    """The text of the train in one line."""
    return train_text(train).replace("\n", " ; ")


def _words(numbers):
    """Numbers as words."""
    return " ".join([str(number) for number in numbers])


# What makes the train that takes the place of the present one, and what asks or moves the present one.
MAKERS = {"railway": _on_railway, "place": _placed}
ANSWERS = {
    "run": _run, "head": _head, "tail": _tail, "undo": _undo, "couple": _couple, "uncouple": _uncouple, "show": _show,
    "body": _body, "steps": _steps, "class": _class, "to": _to, "turn": _turn, "lengths": _lengths, "count": _count,
    "save": _save,
}


class Desk:
    """A desk with a train, at first on the railway with the one track (0, 1)."""

    def __init__(self):
        self._train = Train(Railway.line(2), 0, 1)

    def execute(self, command):
        """The answer to a command, which is executed if it is not refused."""
        parsed = read_command(command)
        if parsed is None:
            return "bad command"
        try:
            return self._answer(parsed)
        except InvalidTracks:
            return "bad railway"
        except InvalidStanding:
            return "bad standing"
        except (InvalidStation, InvalidMove):
            return "bad station"
        except InvalidLength:
            return "bad length"
        except Blocked:
            return "not possible"
        except NothingToUndo:
            return "nothing to undo"
        except TooShort:
            return "too short"
        except OtherLength:
            return "other length"
        except TooMany:
            return "too many"

    def execute_all(self, *commands):
        """Yields the answers to the commands, each of which is executed when its answer is requested."""
        for command in commands:
            yield self.execute(command)

    def present_train(self):
        """A copy of the train."""
        return self._train.copy()

    def _answer(self, parsed):
        """The answer to a command that was read; it raises the errors of what the command does."""
        word, parts = parsed
        if word in MAKERS:
            make = MAKERS[word]
            self._train = make(self._train, parts)
            return "done"
        answer = ANSWERS[word]
        return answer(self._train, parts)
