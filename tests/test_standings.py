"""Standings, moves, and parts of standings."""

import unittest

from tests.support import NO_LENGTHS, NO_MOVES, NO_STANDINGS, Case, Plan, broom, small_trees
from treetrain.errors import Blocked, InvalidLength, InvalidMove, InvalidStanding
from treetrain.railways import Railway
from treetrain.standings import (
    body_of, front_part, is_standing, length_of, moved, moved_along, opposite_moves, possible_moves, rear_part,
    standings, turned,
)


def pairs(plan):
    return [(a, b) for a in plan.stations for b in plan.stations if a != b]


class Standing(Case):
    def test_is_standing(self):
        for tracks in small_trees():
            railway = Railway(*tracks)
            for head in range(-1, railway.size + 1):
                for tail in range(-1, railway.size + 1):
                    right = 0 <= head < railway.size and 0 <= tail < railway.size and head != tail
                    self.assertIs(is_standing(railway, (head, tail)), right)

    def test_no_standings(self):
        for value in NO_STANDINGS:
            with self.subTest(value=value):
                self.assertIs(is_standing(Railway.line(5), value), False)
                self.assertIs(is_standing(Railway.star(5), value), False)

    def test_no_standings_at_all_on_one_station(self):
        self.assertFalse(is_standing(Railway(), (0, 0)))
        self.assertFalse(is_standing(Railway(), (0, 1)))

    def test_body_length_and_turned(self):
        for tracks in small_trees():
            plan = Plan(tracks)
            railway = Railway(*tracks)
            for standing in pairs(plan):
                self.assertEqual(body_of(railway, standing), plan.paths[standing])
                self.assertEqual(length_of(railway, standing), plan.distance(*standing))
                self.assertEqual(turned(railway, standing), (standing[1], standing[0]))

    def test_kinds_of_results(self):
        railway = Railway.line(3)
        self.assertIs(type(body_of(railway, (0, 2))), tuple)
        self.assertIs(type(length_of(railway, (0, 2))), int)
        self.assertIs(type(turned(railway, (0, 2))), tuple)

    def test_wrong_standings(self):
        for railway in (Railway.line(5), Railway.star(5)):
            for value in NO_STANDINGS:
                with self.subTest(value=value):
                    wrong = InvalidStanding(value)
                    self.fails(wrong, length_of, railway, value)
                    self.fails(wrong, body_of, railway, value)
                    self.fails(wrong, turned, railway, value)
                    self.fails(wrong, moved, railway, value)
                    self.fails(wrong, moved_along, railway, value, ())
                    self.fails(wrong, opposite_moves, railway, value, ())
                    self.fails(wrong, front_part, railway, value, 1)
                    self.fails(wrong, rear_part, railway, value, 1)

    def test_by_name(self):
        railway = Railway.line(5)
        self.assertTrue(is_standing(value=(0, 1), railway=railway))
        self.assertEqual(length_of(standing=(0, 2), railway=railway), 2)
        self.assertEqual(body_of(standing=(0, 2), railway=railway), (0, 1, 2))
        self.assertEqual(turned(standing=(0, 2), railway=railway), (2, 0))


class Moves(Case):
    def test_possible_moves(self):
        for tracks in small_trees() + [broom(5, 5)]:
            plan = Plan(tracks)
            railway = Railway(*tracks)
            for standing in pairs(plan):
                found = list(possible_moves(railway, standing))
                self.assertEqual(found, plan.possible_moves(standing))
                self.assertEqual(found, sorted(found))
                self.assertTrue(all(type(move) is tuple for move in found))

    def test_no_moves_are_possible(self):
        self.assertEqual(list(possible_moves(Railway.line(5), (0, 4))), [])
        self.assertEqual(list(possible_moves(Railway.line(2), (1, 0))), [])
        self.assertEqual(list(possible_moves(Railway.star(5), (1, 2))), [])

    def test_possible_moves_are_yielded_one_by_one(self):
        rows = possible_moves(Railway.line(5), (1, 2))
        self.assertEqual((next(rows), next(rows)), (("head", 0), ("tail", 3)))
        self.assertRaises(StopIteration, next, rows)

    def test_wrong_standings_at_the_first_item(self):
        for value in NO_STANDINGS:
            with self.subTest(value=value):
                rows = possible_moves(Railway.line(5), value)
                self.fails(InvalidStanding(value), next, rows)

    def test_single_moves(self):
        for tracks in small_trees():
            plan = Plan(tracks)
            railway = Railway(*tracks)
            for standing in pairs(plan):
                possible = plan.possible_moves(standing)
                for move in [(end, x) for end in ("head", "tail") for x in plan.stations]:
                    if move in possible:
                        self.assertEqual(moved(railway, standing, move), plan.moved(standing, move))
                        self.assertEqual(moved_along(railway, standing, (move,)), plan.moved(standing, move))
                    else:
                        self.fails(Blocked(0), moved, railway, standing, move)
                        self.fails(Blocked(0), moved_along, railway, standing, (move,))
                        self.fails(Blocked(0), opposite_moves, railway, standing, (move,))

    def test_long_ways(self):
        for tracks in small_trees():
            plan = Plan(tracks)
            railway = Railway(*tracks)
            for start in pairs(plan):
                moves, standing = walk(plan, start)
                self.assertEqual(moved(railway, start, *moves), standing)
                self.assertEqual(moved_along(railway, start, moves), standing)
                self.assertEqual(length_of(railway, standing), length_of(railway, start))

    def test_no_moves(self):
        railway = Railway.line(5)
        self.assertEqual(moved(railway, (3, 1)), (3, 1))
        self.assertEqual(moved_along(railway, (3, 1), ()), (3, 1))
        self.assertEqual(opposite_moves(railway, (3, 1), ()), ())

    def test_very_many_moves(self):
        moves = (("head", 2), ("tail", 0)) * 25000
        self.assertEqual(moved_along(Railway.line(3), (1, 0), moves), (1, 0))
        self.assertEqual(moved(Railway.line(3), (1, 0), *moves[:-1]), (2, 1))
        self.assertEqual(len(opposite_moves(Railway.line(3), (1, 0), moves)), 50000)

    def test_blocked_moves(self):
        line = Railway.line(5)
        self.fails(Blocked(0), moved, line, (1, 2), ("head", 2))
        self.fails(Blocked(0), moved, line, (1, 2), ("head", 1))
        self.fails(Blocked(0), moved, line, (1, 2), ("tail", 4))
        self.fails(Blocked(1), moved, line, (1, 2), ("head", 0), ("head", 0))
        self.fails(Blocked(2), moved, line, (1, 2), ("tail", 3), ("tail", 4), ("tail", 0), ("head", 1))
        self.fails(Blocked(1), moved_along, line, (1, 2), (("tail", 3), ("tail", 2)))
        self.fails(Blocked(1), opposite_moves, line, (1, 2), (("tail", 3), ("tail", 2)))

    def test_wrong_moves(self):
        railway = Railway.line(5)
        for wrong in NO_MOVES:
            with self.subTest(wrong=wrong):
                self.fails(InvalidMove(0), moved, railway, (1, 2), wrong)
                self.fails(InvalidMove(1), moved, railway, (1, 2), ("head", 0), wrong)
                self.fails(InvalidMove(0), moved_along, railway, (1, 2), (wrong, wrong))
                self.fails(InvalidMove(2), opposite_moves, railway, (1, 2), (("head", 0), ("tail", 2), wrong))

    def test_wrong_moves_are_told_before_blocked_ones(self):
        railway = Railway.line(5)
        moves = (("head", 4), ("tail", 4), ("head", 9))
        self.fails(InvalidMove(2), moved, railway, (1, 2), *moves)
        self.fails(InvalidMove(2), moved_along, railway, (1, 2), moves)
        self.fails(InvalidMove(2), opposite_moves, railway, (1, 2), moves)

    def test_moves_are_a_tuple(self):
        for value in (None, True, 0, "", "head", [], [("head", 0)], {}, Railway()):
            with self.subTest(value=value):
                self.fails(InvalidMove(None), moved_along, Railway.line(5), (1, 2), value)
                self.fails(InvalidMove(None), opposite_moves, Railway.line(5), (1, 2), value)

    def test_standings_are_looked_at_before_moves(self):
        railway = Railway.line(5)
        self.fails(InvalidStanding((1, 1)), moved, railway, (1, 1), None)
        self.fails(InvalidStanding((1, 1)), moved_along, railway, (1, 1), None)
        self.fails(InvalidStanding((1, 1)), opposite_moves, railway, (1, 1), None)

    def test_arguments_are_not_modified(self):
        moves = [("head", 0), ("tail", 2)]
        moved(Railway.line(5), (1, 2), *moves)
        self.assertEqual(moves, [("head", 0), ("tail", 2)])
        self.fails(InvalidMove(None), moved_along, Railway.line(5), (1, 2), moves)
        self.assertEqual(moves, [("head", 0), ("tail", 2)])

    def test_by_name(self):
        railway = Railway.line(5)
        self.assertEqual(list(possible_moves(standing=(0, 1), railway=railway)), [("tail", 2)])
        self.assertEqual(moved(standing=(0, 1), railway=railway), (0, 1))
        self.assertEqual(moved_along(moves=(("tail", 2),), standing=(0, 1), railway=railway), (1, 2))
        self.assertEqual(opposite_moves(moves=(("tail", 2),), standing=(0, 1), railway=railway), (("head", 0),))


class OppositeMoves(Case):
    def test_opposite_of_each_move(self):
        star = Railway.star(4)
        self.assertEqual(opposite_moves(star, (1, 0), (("tail", 2),)), (("head", 1),))
        self.assertEqual(opposite_moves(star, (0, 1), (("head", 2),)), (("tail", 1),))

    def test_the_last_one_comes_first(self):
        moves = (("tail", 2), ("head", 3))
        self.assertEqual(opposite_moves(Railway.star(4), (1, 0), moves), (("tail", 2), ("head", 1)))

    def test_they_lead_back(self):
        for tracks in small_trees():
            plan = Plan(tracks)
            railway = Railway(*tracks)
            for start in pairs(plan):
                moves, goal = walk(plan, start)
                back = opposite_moves(railway, start, moves)
                self.assertIs(type(back), tuple)
                self.assertEqual(len(back), len(moves))
                self.assertEqual(moved_along(railway, goal, back), start)
                self.assertEqual(opposite_moves(railway, goal, back), moves)


class Parts(Case):
    def test_parts_of_every_length(self):
        for tracks in small_trees():
            plan = Plan(tracks)
            railway = Railway(*tracks)
            for standing in pairs(plan):
                body = plan.paths[standing]
                for length in range(1, len(body)):
                    self.assertEqual(front_part(railway, standing, length), (body[0], body[length]))
                    self.assertEqual(rear_part(railway, standing, length), (body[-length - 1], body[-1]))
                for length in (len(body), len(body) + 1, 10 ** 49):
                    self.fails(InvalidLength(length), front_part, railway, standing, length)
                    self.fails(InvalidLength(length), rear_part, railway, standing, length)

    def test_the_whole_standing(self):
        self.assertEqual(front_part(Railway.line(5), (4, 0), 4), (4, 0))
        self.assertEqual(rear_part(Railway.line(5), (4, 0), 4), (4, 0))

    def test_wrong_lengths(self):
        for length in NO_LENGTHS:
            with self.subTest(length=length):
                self.fails(InvalidLength(length), front_part, Railway.line(5), (0, 3), length)
                self.fails(InvalidLength(length), rear_part, Railway.line(5), (0, 3), length)

    def test_standings_are_looked_at_before_lengths(self):
        self.fails(InvalidStanding([0, 3]), front_part, Railway.line(5), [0, 3], 0)
        self.fails(InvalidStanding([0, 3]), rear_part, Railway.line(5), [0, 3], 0)

    def test_by_name(self):
        self.assertEqual(front_part(length=1, standing=(0, 3), railway=Railway.line(5)), (0, 1))
        self.assertEqual(rear_part(length=1, standing=(0, 3), railway=Railway.line(5)), (2, 3))


class Standings(Case):
    def test_standings_of_every_length(self):
        for tracks in small_trees():
            plan = Plan(tracks)
            railway = Railway(*tracks)
            for length in range(1, plan.diameter() + 1):
                found = list(standings(railway, length))
                self.assertTrue(found)
                self.assertEqual(found, plan.standings(length))
                self.assertEqual(found, sorted(found))

    def test_none_beyond_the_diameter(self):
        for tracks in small_trees():
            plan = Plan(tracks)
            for length in (plan.diameter() + 1, plan.diameter() + 2, 10 ** 49):
                self.assertEqual(list(standings(Railway(*tracks), length)), [])

    def test_one_station(self):
        self.assertEqual(list(standings(Railway(), 1)), [])

    def test_hundred_stations(self):
        self.assertEqual(len(list(standings(Railway.star(100), 2))), 99 * 98)
        self.assertEqual(list(standings(Railway.line(100), 99)), [(0, 99), (99, 0)])

    def test_standings_are_yielded_one_by_one(self):
        rows = standings(Railway.line(3), 2)
        self.assertEqual((next(rows), next(rows)), ((0, 2), (2, 0)))
        self.assertRaises(StopIteration, next, rows)

    def test_wrong_lengths_at_the_first_item(self):
        for length in NO_LENGTHS:
            with self.subTest(length=length):
                rows = standings(Railway.line(5), length)
                self.fails(InvalidLength(length), next, rows)

    def test_by_name(self):
        self.assertEqual(list(standings(length=1, railway=Railway.line(2))), [(0, 1), (1, 0)])


def walk(plan, start):
    """A tuple of moves that are possible one after the other, in some manner, and where they lead to."""
    moves = []
    standing = start
    for step in range(12):
        possible = plan.possible_moves(standing)
        if possible:
            move = possible[(7 * step + 3) % len(possible)]
            moves.append(move)
            standing = plan.moved(standing, move)
    return tuple(moves), standing


if __name__ == "__main__":
    unittest.main()
