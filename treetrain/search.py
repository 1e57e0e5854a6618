"""The search by all possible moves: for the fewest moves to another standing, and for all standings of a class."""

from treetrain.standings import body_of, steps_from


def least_way(railway, start, goal):
    """The least tuple of the fewest moves that lead from the start to the goal; there must be a way."""
    body = body_of(railway, start)
    counts = _counts_to(railway, body, body_of(railway, goal))
    fewest = counts[body]
    moves = []
    for count in range(fewest - 1, -1, -1):
        nearer = [step for step in steps_from(railway, body) if counts.get(step[1]) == count]
        move, body = nearer[0]
        moves.append(move)
    return tuple(moves)


def standings_of_class(railway, standing):
    """The ascending list of all standings that a standing leads to."""
    counts = _counts_to(railway, None, body_of(railway, standing))
    return sorted([(body[0], body[-1]) for body in counts])


def _counts_to(railway, start, goal):
    """The fewest moves to the goal from all bodies that are not farther from it than the start, if there is a start."""
    counts = {goal: 0}
    layer = [goal]
    # Each move has its opposite, so the search may begin at the goal.
    while layer and start not in counts:
        farther = []
        for body in layer:
            for _, other in steps_from(railway, body):
                if other not in counts:
                    counts[other] = counts[body] + 1
                    farther.append(other)
        layer = farther
    return counts
