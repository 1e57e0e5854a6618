"""Decisions: whether one standing leads to another one, with a way or a reason against it, and their checker."""

from treetrain.climbing import has_clamp, is_clamp, pocket
from treetrain.divides import find_divide, is_divide, mark
from treetrain.errors import Blocked, InvalidAnswer, InvalidMove, OtherLength
from treetrain.search import least_way
from treetrain.standings import length_of, moved_along

# The first items of decisions, and their numbers of items.
FORMS = (("way", 2), ("clamp", 3), ("divide", 2))


def common_length(railway, start, goal):
    """The length of two standings, which must be the same for both."""
    spans = (length_of(railway, start), length_of(railway, goal))
    if spans[0] != spans[1]:
        raise OtherLength(spans)
    return spans[0]


def leads(railway, start, goal):
    """Tells whether there is a way from the start to the goal."""
    return reason_against(railway, start, goal) is None


def decide(railway, start, goal):
    """A decision of two standings: a way if there is one."""
    reason = reason_against(railway, start, goal)
    if reason is None:
        return "way", least_way(railway, start, goal)
    return reason


def check_decision(railway, start, goal, answer):
    """The first item of an answer that is a decision of two standings."""
    length = common_length(railway, start, goal)
    if not isinstance(answer, tuple) or not answer or (answer[0], len(answer)) not in FORMS:
        raise InvalidAnswer("form")
    word = answer[0]
    if word == "way":
        right = _is_way(railway, start, goal, answer[1])
    elif word == "clamp":
        right = is_clamp(railway, length, answer[1:]) and _has_one(railway, start, goal, answer[1:])
    else:
        right = is_divide(railway, length, answer[1]) and _are_opposed(railway, start, goal, answer[1])
    if not right:
        raise InvalidAnswer(word)
    return word


def reason_against(railway, start, goal):
    """A decision of two standings that is not a way, or None if there is a way."""
    length = common_length(railway, start, goal)
    one = pocket(railway, start)
    other = pocket(railway, goal)
    if one != other:
        # Different pockets are not within each other, so one of both standings has not the pocket of the other one.
        clamp = one if one is not None and not has_clamp(railway, goal, one) else other
        return ("clamp",) + clamp
    if one is not None:
        return None
    line = find_divide(railway, length)
    if line is None or not _are_opposed(railway, start, goal, line):
        return None
    return "divide", line


def _is_way(railway, start, goal, moves):
    """Tells whether a value is a way, as a tuple of moves."""
    try:
        return moved_along(railway, start, moves) == goal
    except (InvalidMove, Blocked):
        return False


def _has_one(railway, start, goal, clamp):
    """Tells whether exactly one of two standings has a clamp."""
    return has_clamp(railway, start, clamp) != has_clamp(railway, goal, clamp)


def _are_opposed(railway, start, goal, line):
    """Tells whether the marks of head and tail on a line stand in opposite orders for two standings."""
    return _rise(railway, start, line) * _rise(railway, goal, line) < 0


def _rise(railway, standing, line):
    """The mark of the tail, less that of the head."""
    head, tail = standing
    return mark(railway, line, tail) - mark(railway, line, head)
