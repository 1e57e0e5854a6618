"""The names of the interface: where they are defined, and their parameters."""

import importlib
import inspect
import unittest

# For each module the functions, as they are listed there, and the classes with what each has in its own body.
FUNCTIONS = {
    "standings": (
        "is_standing(railway, value)", "length_of(railway, standing)", "body_of(railway, standing)",
        "turned(railway, standing)", "possible_moves(railway, standing)", "moved(railway, standing, *moves)",
        "moved_along(railway, standing, moves)", "opposite_moves(railway, standing, moves)",
        "front_part(railway, standing, length)", "rear_part(railway, standing, length)", "standings(railway, length)",
    ),
    "depths": (
        "behind(railway, station, seen_from)", "depth_behind(railway, station, seen_from)",
        "branch_depths(railway, station)", "diameter(railway)", "deep_branches(railway, station, length)",
        "trunk(railway, length)", "pivots(railway, length)",
    ),
    "climbing": (
        "is_clamp(railway, length, value)", "is_pocket(railway, length, value)", "clamps(railway, standing)",
        "is_free(railway, standing)", "climb(railway, standing)", "pocket(railway, standing)",
    ),
    "divides": (
        "is_line(railway, value)", "is_divide(railway, length, value)", "mark(railway, line, station)",
        "find_divide(railway, length)",
    ),
    "deciding": (
        "leads(railway, start, goal)", "decide(railway, start, goal)", "check_decision(railway, start, goal, answer)",
    ),
    "ways": ("way(railway, start, goal)", "fewest_moves(railway, start, goal)", "shortest_way(railway, start, goal)"),
    "classes": (
        "pockets(railway, length)", "count_classes(railway, length)", "count_free(railway, length)",
        "class_size(railway, standing)", "class_of(railway, standing)", "head_places(railway, standing)",
        "tail_places(railway, standing)",
    ),
    "lengths": (
        "passing_length(railway)", "turning_length(railway)", "can_turn(railway, standing)", "length_rows(railway)",
    ),
    "changes": ("renamed(railway, order)", "extended(railway, station)", "shortened(railway)", "halved(railway)"),
    "trials": ("tried(train, *moves)", "tried_all(train, moves)"),
    "texts": (
        "railway_text(railway)", "standing_text(railway, standing)", "moves_text(railway, moves)", "train_text(train)",
    ),
    "parsing": (
        "read_railway(text)", "read_standing(railway, text)", "read_moves(railway, text)", "read_train(text)",
    ),
}
CLASSES = {
    ("railways", "Railway"): (
        "__init__(self, *tracks)", "of(tracks)", "is_tracks(value)", "line(count)", "star(count)", "read(text)", "size",
        "tracks", "neighbours(self, station)", "distance(self, one, other)", "path(self, one, other)",
        "is_same(self, other)",
    ),
    ("trains", "Train"): (
        "__init__(self, railway, head, tail)", "railway", "head", "tail", "standing", "span", "body", "steps",
        "ahead(self, station)", "reverse(self, station)", "run(self, *moves)", "run_all(self, moves)", "undo(self)",
        "couple(self, station)", "uncouple(self)", "is_clamped(self)", "copy(self)", "is_same(self, other)",
    ),
    ("trains", "TouringTrain"): ("__init__(self, railway, head, tail)", "visited"),
    ("trains", "FuelTrain"): ("__init__(self, railway, head, tail, *, fuel=100)", "fuel", "burnt"),
    ("trains", "TouringFuelTrain"): (
        "__init__(self, railway, head, tail, *, fuel=100)", "visited", "fuel", "burnt",
    ),
    ("trials", "Trial"): ("__init__(self, train)", "__enter__(self)", "__exit__(self, kind, value, trace)"),
    ("desk", "Desk"): (
        "__init__(self)", "execute(self, command)", "execute_all(self, *commands)", "present_train(self)",
    ),
}
GENERATORS = (
    ("standings", "possible_moves"), ("standings", "standings"), ("climbing", "climb"), ("ways", "way"),
    ("classes", "class_of"), ("lengths", "length_rows"),
)


def module_of(name):
    return importlib.import_module("treetrain." + name)


class Interface(unittest.TestCase):
    def check_listed(self, found, owner, listed, shown):
        """Asserts that a thing is defined in the owner itself, and has the parameters that are listed."""
        self.assertEqual(found.__module__, owner)
        self.assertEqual(found.__name__ + str(inspect.signature(shown)), listed)

    def test_functions(self):
        for module, rows in FUNCTIONS.items():
            for listed in rows:
                with self.subTest(module=module, listed=listed):
                    found = vars(module_of(module))[listed.split("(")[0]]
                    self.check_listed(found, "treetrain." + module, listed, found)

    def test_classes(self):
        for (module, name), rows in CLASSES.items():
            made = vars(module_of(module))[name]
            self.assertEqual((made.__module__, made.__name__), ("treetrain." + module, name))
            for listed in rows:
                with self.subTest(name=name, listed=listed):
                    word = listed.split("(")[0]
                    found = vars(made)[word]
                    if listed == word:
                        self.assertIs(type(found), property)
                        self.assertIsNone(found.fset)
                    else:
                        shown = getattr(made, word)
                        self.check_listed(getattr(found, "__func__", found), made.__module__, listed, shown)

    def test_generators(self):
        for module, name in GENERATORS:
            self.assertTrue(inspect.isgeneratorfunction(getattr(module_of(module), name)), name)
        self.assertTrue(inspect.isgeneratorfunction(module_of("desk").Desk.execute_all))


if __name__ == "__main__":
    unittest.main()
