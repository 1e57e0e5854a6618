"""A plain writer and a plain reader of texts: the reader knows for each place all words that may stand there."""

from tests.support import Plan


class Wrong(Exception):
    """The first wrong place of a text."""

    def __init__(self, row, word):
        Exception.__init__(self, row, word)
        self.place = (row, word)


def railway_rows(tracks):
    return [f"railway {len(tracks) + 1}"] + [f"track {a} {b}" for a, b in sorted(tracks)]


def train_rows(tracks, standing, steps):
    head, tail = standing
    return railway_rows(tracks) + [f"train {head} {tail}"] + [f"{end} {x}" for end, x in steps]


def names(numbers):
    return [str(number) for number in numbers]


class PlainReader:
    """The words of a text, looked at one after the other."""

    def __init__(self, text):
        self.rows = [row.split(" ") for row in text.split("\n")]

    def word(self, row, number, right):
        words = self.rows[row - 1] if row <= len(self.rows) else []
        if number > len(words) or words[number - 1] not in right:
            raise Wrong(row, number)
        return words[number - 1]

    def number(self, row, number, right):
        return int(self.word(row, number, names(right)))

    def row_ends(self, row, many):
        if len(self.rows[row - 1]) > many:
            raise Wrong(row, many + 1)

    def text_ends(self, many):
        if len(self.rows) > many:
            raise Wrong(many + 1, 1)

    def railway(self):
        self.word(1, 1, ["railway"])
        size = self.number(1, 2, range(1, 101))
        self.row_ends(1, 2)
        tracks = []
        for row in range(2, size + 1):
            self.word(row, 1, ["track"])
            least = tracks[-1] if tracks else (0, 0)
            a = self.number(row, 2, range(least[0], size))
            joined = joined_to(tracks, a)
            b = self.number(row, 3, [b for b in range(a + 1, size) if (a, b) > least and b not in joined])
            self.row_ends(row, 3)
            tracks.append((a, b))
        return tuple(tracks)

    def standing(self, row, number, size):
        head = self.number(row, number, range(size))
        tail = self.number(row, number + 1, [x for x in range(size) if x != head])
        self.row_ends(row, number + 1)
        return head, tail

    def move(self, row, size):
        end = self.word(row, 1, ["head", "tail"])
        station = self.number(row, 2, range(size))
        self.row_ends(row, 2)
        return end, station


def joined_to(tracks, station):
    """The stations that tracks join to a station."""
    found = [station]
    for x in found:
        found += [a + b - x for a, b in tracks if x in (a, b) and a + b - x not in found]
    return found


def plain_railway(text):
    reader = PlainReader(text)
    tracks = reader.railway()
    reader.text_ends(len(tracks) + 1)
    return tracks


def plain_standing(text, size):
    reader = PlainReader(text)
    standing = reader.standing(1, 1, size)
    reader.text_ends(1)
    return standing


def plain_moves(text, size):
    if text == "":
        return ()
    reader = PlainReader(text)
    return tuple(reader.move(row, size) for row in range(1, len(reader.rows) + 1))


def plain_train(text):
    """The tracks, the standing before the first step, the standing behind the last one, and the steps."""
    reader = PlainReader(text)
    tracks = reader.railway()
    size = len(tracks) + 1
    reader.word(size + 1, 1, ["train"])
    first = standing = reader.standing(size + 1, 2, size)
    plan = Plan(tracks) if len(reader.rows) > size + 1 else None
    steps = []
    for row in range(size + 2, len(reader.rows) + 1):
        move = reader.move(row, size)
        if move not in plan.possible_moves(standing):
            raise Wrong(row, 2)
        standing = plan.moved(standing, move)
        steps.append(move)
    return tracks, first, standing, tuple(steps)


def changed(text, chance):
    """A text that is changed at one place or at a few ones, in one of many ways."""
    for _ in range(chance.choice([1, 1, 1, 2, 3])):
        change = chance.choice([changed_signs, changed_words, changed_rows, changed_numbers])
        text = change(text, chance)
    return text


def changed_signs(text, chance):
    at = chance.randrange(len(text) + 1)
    sign = chance.choice("0123459 \n\t+-/;_.aehtrw")
    kind = chance.choice(["replaced", "inserted", "removed", "doubled"])
    if kind == "replaced":
        return text[:at] + sign + text[at + 1:]
    if kind == "inserted":
        return text[:at] + sign + text[at:]
    return text[:at] + text[at + 1:] if kind == "removed" else text[:at] + text[at:at + 1] + text[at:]


def rearranged(rows, chance, fresh):
    """A list in which one thing is replaced, moved, doubled or missing, or is added."""
    rows, at = list(rows), chance.randrange(len(rows))
    kind = chance.choice(["replaced", "moved", "doubled", "missing", "added", "added at the end"])
    if kind == "replaced":
        rows[at] = fresh
    elif kind == "moved":
        rows.insert(chance.randrange(len(rows)), rows.pop(at))
    elif kind == "doubled":
        rows.insert(at, rows[at])
    elif kind == "missing":
        rows.pop(at)
    else:
        rows.insert(at if kind == "added" else len(rows), fresh)
    return rows


def changed_words(text, chance):
    rows = text.split("\n")
    at = chance.randrange(len(rows))
    fresh = chance.choice(["", "0", "1", "2", "7", "99", "100", "track", "head", "tail", "train", "railway", "x", "/"])
    rows[at] = " ".join(rearranged(rows[at].split(" "), chance, fresh))
    return "\n".join(rows)


def changed_rows(text, chance):
    fresh = chance.choice(["", " ", "track 0 1", "track 2 1", "head 0", "tail 1", "train 0 1", "railway 1", "x", "0 1"])
    return "\n".join(rearranged(text.split("\n"), chance, fresh))


def changed_numbers(text, chance):
    rows = [row.split(" ") for row in text.split("\n")]
    places = [(row, at) for row in rows for at, word in enumerate(row) if word.isdigit()]
    if places:
        row, at = chance.choice(places)
        number = int(row[at])
        row[at] = chance.choice([
            "0" + row[at], "+" + row[at], "-" + row[at], str(number + 1), str(number - 1), str(number + 1000),
            str(number + 10000), "100", "101", row[chance.randrange(len(row))], row[at] + "\t",
        ])
    return "\n".join(" ".join(row) for row in rows)
