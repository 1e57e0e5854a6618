"""Whether one standing leads to another one, decisions, and their checker."""

import unittest

from tests.support import Case, Plan, broom, shapes, some_trees, spider
from treetrain.deciding import check_decision, decide, leads
from treetrain.errors import InvalidAnswer
from treetrain.railways import Railway
from treetrain.standings import moved_along

TREES = shapes(2, 7) + some_trees(6, 6) + some_trees(8, 3) + [broom(5, 4), spider(2, 2, 2), spider(2, 2, 3)]
PLANS = [(Plan(tracks), Railway(*tracks)) for tracks in TREES]
SMALL_PLANS = [(Plan(tracks), Railway(*tracks)) for tracks in shapes(2, 5) + some_trees(5, 3)]
NO_FORMS = (
    None, True, 0, "", "way", "clamp", (), [], {}, Railway(), ("way",), ("clamp",), ("divide",), ("clamp", 1), ("way", (), ()),
    ("clamp", (1, 2)), ("clamp", 1, 2, 3), ("divide", 1, 2), ("divide", (1, 2), ()),
    ["way", ()], ["clamp", 1, 2], ["divide", (1, 2)],
    ("Way", ()), ("ways", ()), ("", ()), (None, ()), (True, ()), (0, ()), (("way",), ()), (["way"], ()), ([], ()), ({}, ()),
    ("head", 1), ("form", ()), ("clam", 1, 2), (1, 2), (1, 2, 3), (("way", ()),), {"way": ()}, {0: "way", 1: ()}, ((), "way"),
    ("way", "clamp", 1, 2),
)


def opposed(plan, line, start, goal):
    signs = [plan.mark(line, head) - plan.mark(line, tail) for head, tail in (start, goal)]
    return signs[0] * signs[1] < 0


class Leads(Case):
    def test_exactly_where_a_search_leads(self):
        for plan, railway in PLANS:
            for _, start, goal, ways in plan.pairs_of_standings():
                self.assertIs(leads(railway, start, goal), goal in ways)

    def test_lines_and_stars(self):
        line, star = Railway.line(5), Railway.star(5)
        self.assertIs(leads(line, (0, 1), (4, 3)), False)
        self.assertIs(leads(line, (0, 1), (3, 4)), True)
        self.assertIs(leads(line, (0, 3), (1, 4)), True)
        self.assertIs(leads(line, (0, 3), (4, 1)), False)
        self.assertIs(leads(star, (0, 1), (1, 0)), True)
        self.assertIs(leads(star, (1, 2), (2, 1)), False)
        self.assertIs(leads(star, (1, 2), (1, 3)), False)

    def test_free_and_clamped_standings(self):
        railway = Railway(*spider(4, 4, 1, 1))
        self.assertIs(leads(railway, (0, 2), (9, 10)), False)
        self.assertIs(leads(railway, (9, 10), (0, 2)), False)

    def test_hundred_stations(self):
        legs = Railway(*spider(33, 33, 33))
        self.assertIs(leads(legs, (0, 33), (33, 0)), True)
        self.assertIs(leads(legs, (1, 65), (65, 1)), True)
        self.assertIs(leads(legs, (1, 66), (66, 1)), False)
        self.assertIs(leads(Railway.line(100), (0, 49), (99, 50)), False)
        self.assertIs(leads(Railway.line(100), (0, 49), (50, 99)), True)
        self.assertIs(leads(Railway.star(100), (0, 99), (99, 0)), True)
        self.assertIs(leads(Railway.star(100), (98, 99), (99, 98)), False)


class Decide(Case):
    def test_ways_of_possible_moves_where_there_is_one(self):
        for plan, railway in PLANS:
            for _, start, goal, ways in plan.pairs_of_standings():
                answer = decide(railway, start, goal)
                self.assertIs(type(answer), tuple)
                self.assertEqual(answer[0] == "way", goal in ways)
                if goal in ways:
                    _, moves = answer
                    self.assertIs(type(moves), tuple)
                    self.leads_along(plan, start, goal, moves)

    def test_clamps_and_divides_where_there_is_none(self):
        words = []
        for plan, railway in PLANS:
            for length, start, goal, ways in plan.pairs_of_standings():
                if goal not in ways:
                    word, *rest = decide(railway, start, goal)
                    words.append(word)
                    if word == "clamp":
                        clamp = tuple(rest)
                        self.assertTrue(plan.is_clamp(length, clamp))
                        self.assertNotEqual(plan.has(start, clamp), plan.has(goal, clamp))
                    else:
                        self.assertEqual((word, len(rest)), ("divide", 1))
                        self.assertIn(rest[0], plan.lines())
                        self.assertTrue(plan.is_divide(length, rest[0]) and opposed(plan, rest[0], start, goal))
        self.assertEqual(set(words), {"clamp", "divide"})

    def test_the_checker_accepts_them(self):
        for plan, railway in PLANS:
            for _, start, goal, _ in plan.pairs_of_standings():
                answer = decide(railway, start, goal)
                self.assertEqual(check_decision(railway, start, goal, answer), answer[0])

    def test_from_a_standing_to_itself(self):
        self.assertEqual(decide(Railway.line(5), (0, 3), (0, 3)), ("way", ()))
        self.assertEqual(decide(Railway.star(5), (1, 2), (1, 2)), ("way", ()))
        self.assertEqual(decide(Railway.line(2), (1, 0), (1, 0)), ("way", ()))

    def test_hundred_stations(self):
        trees = some_trees(100, 3) + [spider(33, 33, 33), spider(50, 25, 24), broom(60, 40)]
        for tracks in trees + [tuple((k, k + 1) for k in range(99)), tuple((0, k) for k in range(1, 100))]:
            railway = Railway(*tracks)
            for start in ((0, 99), (0, 1), (0, 50), (37, 61), tracks[40], tracks[98]):
                word, moves = decide(railway, start, start)
                self.assertEqual((word, moves), ("way", ()))
                answer = decide(railway, start, start[::-1])
                self.assertEqual(check_decision(railway, start, start[::-1], answer), answer[0])
                self.assertIs(leads(railway, start, start[::-1]), answer[0] == "way")
                if answer[0] == "way":
                    self.assertLessEqual(len(answer[1]), 40000)

    def test_a_long_turn(self):
        railway = Railway(*spider(33, 33, 33))
        moves = decide(railway, (0, 33), (33, 0))[1]
        self.assertEqual(moved_along(railway, (0, 33), moves), (33, 0))


class CheckDecision(Case):
    def test_every_pair_of_stations_as_a_clamp(self):
        for plan, railway in SMALL_PLANS:
            for length, start, goal, _ in plan.pairs_of_standings():
                for u in range(-1, plan.size + 1):
                    for v in range(-1, plan.size + 1):
                        right = (u, v) in plan.depths and plan.is_clamp(length, (u, v))
                        right = right and plan.has(start, (u, v)) != plan.has(goal, (u, v))
                        self.check(railway, start, goal, ("clamp", u, v), right)

    def test_every_line_as_a_divide(self):
        fork = spider(1, 2, 2)
        for plan, railway in SMALL_PLANS + [(Plan(fork), Railway(*fork))]:
            divides = {(length, line) for length in plan.lengths() for line in plan.lines() if plan.is_divide(length, line)}
            for length, start, goal, _ in plan.pairs_of_standings():
                for line in plan.lines():
                    right = (length, line) in divides and opposed(plan, line, start, goal)
                    self.check(railway, start, goal, ("divide", line), right)

    def test_every_few_moves_as_a_way(self):
        for plan, railway in SMALL_PLANS:
            for _, start, goal, _ in plan.pairs_of_standings():
                layer = [((), start)]
                for _ in range(4):
                    for moves, standing in layer:
                        self.check(railway, start, goal, ("way", moves), standing == goal)
                    layer = [
                        (moves + (move,), plan.moved(standing, move))
                        for moves, standing in layer[:20] for move in plan.possible_moves(standing)
                    ]

    def test_moves_that_are_not_possible(self):
        line = Railway.line(5)
        self.check(line, (0, 3), (1, 4), ("way", (("tail", 4),)), True)
        for moves in (
            (("tail", 3),), (("head", 4),), (("head", 0),), (("tail", 5),), (("tail", 4), ("tail", 4)),
            (("head", 1), ("tail", 4)), (("tail", 4), ("head", 0), ("tail", 4), ("tail", 4)),
            ("tail", 4), (["tail", 4],), (("tail", 4.0),), (("tails", 4),),
            (("tail", True),), (None,), ((),), ("tail",), (("tail", 4), None),
        ):
            with self.subTest(moves=moves):
                self.check(line, (0, 3), (1, 4), ("way", moves), False)

    def test_moves_that_lead_elsewhere(self):
        line = Railway.line(5)
        self.check(line, (0, 2), (2, 4), ("way", (("tail", 3), ("tail", 4))), True)
        self.check(line, (0, 2), (2, 4), ("way", (("tail", 3),)), False)
        self.check(line, (0, 2), (2, 4), ("way", ()), False)
        self.check(line, (0, 2), (2, 4), ("way", (("tail", 3), ("tail", 4), ("head", 1))), False)

    def test_moves_are_a_tuple(self):
        for moves in ([("tail", 4)], [["tail", 4]], [], None, True, 0, "", "tail 4", {}, {("tail", 4): 1}, Railway()):
            with self.subTest(moves=moves):
                self.check(Railway.line(5), (0, 3), (1, 4), ("way", moves), False)
                self.check(Railway.line(5), (0, 3), (0, 3), ("way", moves), False)

    def test_more_moves_than_needed(self):
        line = Railway.line(5)
        self.check(line, (0, 3), (1, 4), ("way", (("tail", 4), ("head", 0), ("tail", 4))), True)
        self.check(line, (0, 3), (0, 3), ("way", (("tail", 4), ("head", 0))), True)
        self.check(line, (0, 3), (0, 3), ("way", (("tail", 4), ("head", 0)) * 10000), True)
        self.check(line, (0, 3), (0, 3), ("way", ()), True)

    def test_other_forms(self):
        for start, goal in (((0, 3), (1, 4)), ((0, 3), (3, 0)), ((0, 2), (2, 0)), ((0, 2), (0, 2))):
            for answer in NO_FORMS:
                with self.subTest(answer=answer):
                    self.fails(InvalidAnswer("form"), check_decision, Railway.line(5), start, goal, answer)

    def test_other_clamps(self):
        line = Railway.line(5)
        self.check(line, (0, 3), (4, 1), ("clamp", 1, 3), True)
        self.check(line, (0, 3), (4, 1), ("clamp", 1, 2), True)
        self.check(line, (0, 3), (4, 1), ("clamp", 3, 2), True)
        self.check(line, (0, 3), (1, 4), ("clamp", 1, 3), False)
        self.check(line, (0, 3), (1, 4), ("clamp", 3, 1), False)
        self.check(line, (0, 3), (4, 1), ("clamp", 0, 3), False)
        for u, v in ((1, 1), (True, 3), (1, None), (None, None), ("1", "3"), ([1], [3]), ((1, 3), ()), (1, 5), (-1, 3), (3, [1])):
            with self.subTest(u=u, v=v):
                self.check(line, (0, 3), (4, 1), ("clamp", u, v), False)

    def test_other_divides(self):
        line = Railway.line(5)
        stations = (0, 1, 2, 3, 4)
        self.check(line, (0, 2), (2, 0), ("divide", stations), True)
        self.check(line, (2, 0), (0, 2), ("divide", stations[::-1]), True)
        self.check(line, (0, 2), (2, 0), ("divide", (1, 2, 3)), True)
        self.check(line, (0, 2), (2, 4), ("divide", stations), False)
        for value in (
            [0, 1, 2, 3, 4], (0, 2, 4), (0, 1, 2), (2, 3), (0,), (), None, 0, "01234", {}, (0, True, 2, 3, 4), (1, 2, 3, 4, 5),
        ):
            with self.subTest(value=value):
                self.check(line, (0, 2), (2, 0), ("divide", value), False)

    def test_equal_marks_are_not_opposed(self):
        star = Railway(*spider(1, 2, 2))
        self.check(star, (1, 2), (2, 1), ("divide", (3, 2, 0, 4, 5)), True)
        self.check(star, (1, 0), (0, 1), ("divide", (3, 2, 0, 4, 5)), False)
        self.check(star, (1, 0), (2, 0), ("divide", (3, 2, 0, 4, 5)), False)
        self.check(star, (2, 0), (1, 0), ("divide", (3, 2, 0, 4, 5)), False)

    def test_never_both_a_way_and_another_decision(self):
        for plan, railway in SMALL_PLANS:
            for _, start, goal, ways in plan.pairs_of_standings():
                if goal in ways:
                    for pair in plan.depths:
                        self.check(railway, start, goal, ("clamp",) + pair, False)
                    for line in plan.lines():
                        self.check(railway, start, goal, ("divide", line), False)

    def test_the_answer_is_not_modified(self):
        answer = ("way", [["tail", 4], ("tail", [4])])
        self.check(Railway.line(5), (0, 3), (1, 4), answer, False)
        self.assertEqual(answer, ("way", [["tail", 4], ("tail", [4])]))

    def check(self, railway, start, goal, answer, right):
        if right:
            self.assertEqual(check_decision(railway, start, goal, answer), answer[0])
        else:
            self.fails(InvalidAnswer(answer[0]), check_decision, railway, start, goal, answer)


if __name__ == "__main__":
    unittest.main()
