"""The examples of the interface, as they are printed there."""

import doctest
import unittest

EXAMPLES = {
    "railways": """
>>> from treetrain.railways import Railway
>>> railway = Railway((0, 1), (3, 1), (1, 2))
>>> railway.size, railway.tracks, railway.neighbours(1), railway.path(0, 3)
(4, ((0, 1), (1, 2), (1, 3)), (0, 2, 3), (0, 1, 3))
""",
    "standings": """
>>> from treetrain.railways import Railway
>>> from treetrain.standings import moved, possible_moves
>>> star = Railway.star(4)
>>> list(possible_moves(star, (1, 0))), moved(star, (1, 0), ("tail", 2), ("head", 3))
([('tail', 2), ('tail', 3)], (3, 0))
""",
    "depths": """
>>> from treetrain.depths import branch_depths, depth_behind, pivots, trunk
>>> from treetrain.railways import Railway
>>> broom = Railway((0, 1), (1, 2), (2, 3), (3, 4), (3, 5))
>>> depth_behind(broom, 2, 4), branch_depths(broom, 2), trunk(broom, 2), pivots(broom, 1)
(2, ((1, 2), (3, 2)), (2,), (3,))
""",
    "climbing": """
>>> from treetrain.climbing import climb, clamps, pocket
>>> from treetrain.railways import Railway
>>> path = Railway.line(5)
>>> list(climb(path, (0, 3))), pocket(path, (0, 3)), clamps(path, (0, 3)), pocket(path, (0, 2))
([(0, 3), (1, 3)], (1, 3), ((1, 2), (1, 3), (2, 3)), None)
""",
    "divides": """
>>> from treetrain.divides import is_divide, mark
>>> from treetrain.railways import Railway
>>> broom = Railway((0, 1), (1, 2), (2, 3), (3, 4), (3, 5))
>>> is_divide(broom, 2, (0, 1, 2, 3, 4)), is_divide(broom, 1, (0, 1, 2, 3, 4)), mark(broom, (0, 1, 2, 3, 4), 5)
(True, False, 3)
""",
    "deciding": """
>>> from treetrain.deciding import check_decision, decide, leads
>>> from treetrain.railways import Railway
>>> path = Railway.line(5)
>>> decide(path, (0, 3), (1, 4))[0], leads(path, (0, 2), (2, 0)), decide(path, (0, 2), (2, 0))[0]
('way', False, 'divide')
>>> check_decision(path, (0, 3), (4, 1), ("clamp", 1, 3))
'clamp'
""",
    "ways": """
>>> from treetrain.railways import Railway
>>> from treetrain.ways import fewest_moves, shortest_way
>>> star = Railway.star(4)
>>> fewest_moves(star, (1, 0), (0, 1)), shortest_way(star, (1, 0), (0, 1))
(3, (('tail', 2), ('head', 3), ('tail', 1)))
""",
    "classes": """
>>> from treetrain.classes import class_of, class_size, count_classes, head_places, pockets
>>> from treetrain.railways import Railway
>>> railway = Railway((0, 1), (0, 2), (2, 3), (0, 4), (1, 5), (5, 6), (1, 7))
>>> class_size(railway, (0, 6)), list(class_of(railway, (2, 7))), head_places(railway, (2, 7))
(5, [(0, 6), (2, 5), (2, 7), (3, 1), (4, 5)], (0, 2, 3, 4))
>>> pockets(railway, 3), count_classes(railway, 3), count_classes(Railway.line(5), 2)
(((0, 1), (1, 0), (3, 4), (4, 3), (4, 7), (6, 7), (7, 4), (7, 6)), (8, 0), (0, 2))
""",
    "lengths": """
>>> from treetrain.lengths import length_rows, passing_length, turning_length
>>> from treetrain.railways import Railway
>>> passing_length(Railway.line(5)), turning_length(Railway.line(5)), turning_length(Railway.star(4))
(2, 0, 1)
>>> list(length_rows(Railway.line(5)))
[(1, 8, 0, 2), (2, 6, 0, 2), (3, 4, 2, 0), (4, 2, 2, 0)]
""",
    "changes": """
>>> from treetrain.changes import halved, renamed
>>> from treetrain.railways import Railway
>>> halved(Railway.star(3)).tracks, renamed(Railway.line(3), (1, 0, 2)).tracks
(((0, 3), (0, 4), (1, 3), (2, 4)), ((0, 1), (0, 2)))
""",
    "trains: a touring train with fuel": """
>>> from treetrain.railways import Railway
>>> from treetrain.trains import TouringFuelTrain
>>> train = TouringFuelTrain(Railway.star(4), 1, 0, fuel=5)
>>> train.run(("tail", 2), ("head", 3)), train.visited, train.fuel, train.steps
((3, 0), (0, 1, 3), 3, (('tail', 2), ('head', 3)))
>>> train.undo(), train.fuel, train.steps
((0, 2), 2, (('tail', 2),))
""",
    "trains: coupling": """
>>> from treetrain.railways import Railway
>>> from treetrain.trains import Train
>>> train = Train(Railway.line(5), 0, 2)
>>> train.is_clamped(), train.couple(3), train.is_clamped(), train.uncouple()
(False, (0, 3), True, (0, 2))
""",
    "trials": """
>>> from treetrain.railways import Railway
>>> from treetrain.trains import Train
>>> from treetrain.trials import tried
>>> train = Train(Railway.line(5), 0, 2)
>>> tried(train, ("tail", 3), ("tail", 4)), train.standing
((2, 4), (0, 2))
""",
    "parsing": """
>>> from treetrain.parsing import read_railway, read_train
>>> read_train("railway 3\\ntrack 0 1\\ntrack 1 2\\ntrain 0 1\\ntail 2").standing
(1, 2)
>>> read_railway("railway 3\\ntrack 0 1\\ntrack 0 1")
Traceback (most recent call last):
treetrain.errors.InvalidText: (3, 3)
""",
    "desk": """
>>> from treetrain.desk import Desk
>>> desk = Desk()
>>> desk.execute("railway 0 1 / 0 2 / 0 3"), desk.execute("run head 2 / tail 3"), desk.execute("class")
('done', '0 3', 'free 6')
>>> list(desk.execute_all("tail 1", "turn", "to 2 0", "jump"))
['not possible', 'yes', '1', 'bad command']
""",
}


class Examples(unittest.TestCase):
    def test_examples(self):
        for name, text in EXAMPLES.items():
            with self.subTest(name):
                example = doctest.DocTestParser().get_doctest(text, {}, name, None, None)
                report = []
                result = doctest.DocTestRunner(verbose=False).run(example, out=report.append)
                self.assertEqual(result.failed, 0, "".join(report))
                self.assertGreater(result.attempted, 0)


if __name__ == "__main__":
    unittest.main()
