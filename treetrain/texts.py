"""The texts of railways, standings, moves and trains."""

from treetrain.standings import check_moves, check_standing


def railway_text(railway):
    """The text of a railway."""
    rows = [f"track {one} {other}" for one, other in railway.tracks]
    return "\n".join([f"railway {railway.size}"] + rows)


def standing_text(railway, standing):
    """The text of a standing."""
    check_standing(railway, standing)
    head, tail = standing
    return f"{head} {tail}"


def moves_text(railway, moves):
    """The text of a tuple of moves."""
    check_moves(railway, moves)
    return "\n".join([f"{end} {station}" for end, station in moves])


def train_text(train):
    """The text of a train."""
    body = train.course.bodies[0]
    rows = [railway_text(train.railway), f"train {body[0]} {body[-1]}"]
    if train.steps:
        rows.append(moves_text(train.railway, train.steps))
    return "\n".join(rows)
