"""Clamps and pockets: what the bodies of all standings of a class have in common, and the climb that finds it."""

from treetrain.checks import check_length
from treetrain.depths import depth_behind
from treetrain.standings import body_of, is_standing, length_of


def is_clamp(railway, length, value):
    """Tells whether a value is a clamp for a length."""
    check_length(length)
    if not is_standing(railway, value):
        return False
    slack, front, rear = _slack_and_depths(railway, length, value)
    # A depth is not less than 0, so this also asks that the distance is at most the length.
    return front <= slack and rear <= slack


def is_pocket(railway, length, value):
    """Tells whether a value is a pocket for a length."""
    check_length(length)
    if not is_standing(railway, value):
        return False
    slack, front, rear = _slack_and_depths(railway, length, value)
    return front == slack and rear == slack


def has_clamp(railway, standing, clamp):
    """Tells whether a standing has a clamp for its length."""
    body = body_of(railway, standing)
    one, other = clamp
    return one in body and other in body and body.index(one) < body.index(other)


def clamps(railway, standing):
    """The ascending tuple of all clamps that a standing has."""
    body = body_of(railway, standing)
    length = len(body) - 1
    # What is behind a station of the body is the same from all stations of the body on its other side.
    fronts = [depth_behind(railway, body[place], body[place + 1]) for place in range(length)]
    rears = [depth_behind(railway, body[place + 1], body[place]) for place in range(length)]
    found = []
    for at, front in enumerate(fronts):
        for upto in range(at + 1, length + 1):
            if max(front, rears[upto - 1]) <= length - (upto - at):
                found.append((body[at], body[upto]))
    return tuple(sorted(found))


def is_free(railway, standing):
    """Tells whether a standing has no clamp."""
    return pocket(railway, standing) is None


def climb(railway, standing):
    """Yields the pairs of the climb: the standing itself, and then each pair that differs from the one before it."""
    part = body_of(railway, standing)
    length = len(part) - 1
    while part:
        yield part[0], part[-1]
        part = _next_part(railway, length, part)


def pocket(railway, standing):
    """The pocket of a standing, or None for a free one."""
    pairs = list(climb(railway, standing))
    return pairs[-1] if is_pocket(railway, length_of(railway, standing), pairs[-1]) else None


def _slack_and_depths(railway, length, pair):
    """The slack of a pair, the depth behind its first station, and the depth behind its second one."""
    one, other = pair
    slack = length - railway.distance(one, other)
    return slack, depth_behind(railway, one, other), depth_behind(railway, other, one)


def _next_part(railway, length, part):
    """The path between the pair of the climb after that of this path, or () if the climb ends."""
    slack, front, rear = _slack_and_depths(railway, length, (part[0], part[-1]))
    if front >= length or rear >= length:
        return ()
    # When one end has been replaced, the depth behind the other one is the slack: so the ends take turns.
    if front > slack:
        return part[:length - front + 1]
    if rear > slack:
        return part[rear - slack:]
    return ()
