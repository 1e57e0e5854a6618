"""Standings of trains, their moves, and their parts."""

from treetrain.checks import check_length, is_pair_of_stations, is_station
from treetrain.errors import Blocked, InvalidLength, InvalidMove, InvalidStanding
from treetrain.layers import layers

ENDS = ("head", "tail")


def is_standing(railway, value):
    """Tells whether a value is a standing."""
    return is_pair_of_stations(value, railway.size)


def check_standing(railway, standing):
    """Raises InvalidStanding if the value is not a standing."""
    if not is_standing(railway, standing):
        raise InvalidStanding(standing)


def is_move(railway, value):
    """Tells whether a value is a move, possible or not."""
    if not isinstance(value, tuple) or len(value) != 2:
        return False
    return value[0] in ENDS and is_station(railway, value[1])


def check_moves(railway, moves):
    """Raises InvalidMove if the value is not a tuple of moves."""
    if not isinstance(moves, tuple):
        raise InvalidMove(None)
    for index, move in enumerate(moves):
        if not is_move(railway, move):
            raise InvalidMove(index)


def length_of(railway, standing):
    """The distance of the head and the tail."""
    return len(body_of(railway, standing)) - 1


def body_of(railway, standing):
    """The path from the head to the tail."""
    check_standing(railway, standing)
    head, tail = standing
    return railway.path(head, tail)


def turned(railway, standing):
    """The standing with head and tail exchanged."""
    check_standing(railway, standing)
    head, tail = standing
    return tail, head


def possible_moves(railway, standing):
    """Yields all possible moves, ascending."""
    for move, _ in steps_from(railway, body_of(railway, standing)):
        yield move


def moved(railway, standing, *moves):
    """The standing after the moves."""
    return moved_along(railway, standing, moves)


def moved_along(railway, standing, moves):
    """The standing after a tuple of moves."""
    body = bodies_along(railway, standing, moves)[-1]
    return body[0], body[-1]


def opposite_moves(railway, standing, moves):
    """The tuple of the moves that take a tuple of moves back, the last one first."""
    bodies = bodies_along(railway, standing, moves)
    opposites = [_opposite_move(body, end) for (end, _), body in zip(moves, bodies)]
    return tuple(opposites[::-1])


def bodies_along(railway, standing, moves):
    """The list of the bodies before, between and after the moves of a tuple."""
    bodies = [body_of(railway, standing)]
    check_moves(railway, moves)
    for index, (end, station) in enumerate(moves):
        body = bodies[-1]
        old = body[0] if end == "head" else body[-1]
        if station not in railway.neighbours(old) or station in body:
            raise Blocked(index)
        bodies.append(_body_after(body, end, station))
    return bodies


def front_part(railway, standing, length):
    """The standing of a length with the same head and its tail on the body."""
    body = _body_for_part(railway, standing, length)
    return body[0], body[length]


def rear_part(railway, standing, length):
    """The standing of a length with the same tail and its head on the body."""
    body = _body_for_part(railway, standing, length)
    return body[-1 - length], body[-1]


def steps_from(railway, body):
    """The pairs of a possible move and the body after it, in ascending order of the moves."""
    heads = [("head", near) for near in railway.neighbours(body[0]) if near not in body]
    tails = [("tail", near) for near in railway.neighbours(body[-1]) if near not in body]
    return [((end, near), _body_after(body, end, near)) for end, near in heads + tails]


def standings(railway, length):
    """Yields all standings of a length, ascending."""
    check_length(length)
    for head in range(railway.size):
        found = layers(railway, head, None)
        if length < len(found):
            for tail in sorted(found[length]):
                yield head, tail


def _body_for_part(railway, standing, length):
    """The body of a standing that has a part of this length."""
    body = body_of(railway, standing)
    check_length(length)
    if length >= len(body):
        raise InvalidLength(length)
    return body


def _body_after(body, end, station):
    """The body after a possible move."""
    if end == "head":
        return (station,) + body[:-1]
    return body[1:] + (station,)


def _opposite_move(body, end):
    """The move opposite to one that is made by this end of the body."""
    return ("tail", body[-1]) if end == "head" else ("head", body[0])
