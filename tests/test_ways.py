"""Promises 3 and 8: the ways of a team in their order."""

import unittest

from nestboards.counting import counts
from nestboards.errors import InvalidIndex, InvalidNumber, InvalidTeam, InvalidWay
from nestboards.ways import is_way, next_way, nth_way, way_index
from tests.helper import EXAMPLE, MIXED, STAIRS, all_ways, no_teams, no_ways, ordered_ways, small_teams


class IsWayTest(unittest.TestCase):
    def test_all_ways_of_small_teams(self):
        for team in small_teams():
            for way in all_ways(team):
                self.assertIs(is_way(team, way), True, (team, way))

    def test_what_is_no_way(self):
        for thing in no_ways():
            self.assertIs(is_way(EXAMPLE, thing), False, thing)

    def test_jobs_at_the_level(self):
        self.assertIs(is_way(STAIRS, list(range(39, 59))), True)
        self.assertIs(is_way(STAIRS, list(range(40, 60))), False)
        self.assertIs(is_way([0], [None]), True)
        self.assertIs(is_way([0], [0]), False)
        self.assertIs(is_way([1], [0]), True)
        self.assertIs(is_way([1], [1]), False)

    def test_a_way_of_another_team(self):
        self.assertIs(is_way([1, 2, 2], [1, 0, None]), False)
        self.assertIs(is_way([2, 1], [1, 0, None]), False)

    def test_team_is_looked_at_first(self):
        for team in no_teams():
            with self.assertRaises(InvalidTeam):
                is_way(team, None)


class OrderTest(unittest.TestCase):
    def test_example(self):
        ways = [[1, 0, None], [None, 0, 1], [0, None, 1], [1, None, 0]]
        self.assertEqual([nth_way(EXAMPLE, 2, index) for index in range(4)], ways)
        self.assertEqual([way_index(EXAMPLE, way) for way in ways], [0, 1, 2, 3])
        self.assertEqual([next_way(EXAMPLE, way) for way in ways], ways[1:] + [None])

    def test_small_teams(self):
        for team in small_teams():
            for many in range(len(team) + 1):
                self.check_size(team, many, ordered_ways(team, many))

    def check_size(self, team, many, ways):
        for index, way in enumerate(ways):
            self.assertEqual(nth_way(team, many, index), way, (team, many, index))
            self.assertEqual(way_index(team, way), index, (team, way))
            behind = ways[index + 1] if index + 1 < len(ways) else None
            self.assertEqual(next_way(team, way), behind, (team, way))
        for index in (-1, len(ways), len(ways) + 1):
            with self.assertRaises(InvalidIndex):
                nth_way(team, many, index)

    def test_size_0(self):
        self.assertEqual(nth_way([0] * 20, 0, 0), [None] * 20)
        self.assertEqual(way_index(STAIRS, [None] * 20), 0)
        self.assertIs(next_way(STAIRS, [None] * 20), None)

    def test_first_and_last_of_twenty_workers(self):
        last = counts(STAIRS)[20] - 1
        self.assertEqual(nth_way(STAIRS, 20, 0), list(range(20)))
        self.assertEqual(nth_way(STAIRS, 20, last), list(range(39, 59)))
        self.assertEqual(way_index(STAIRS, list(range(39, 59))), last)
        self.assertEqual(nth_way(STAIRS, 1, 0), [0] + [None] * 19)
        self.assertEqual(nth_way(STAIRS, 1, sum(STAIRS) - 1), [None] * 19 + [58])

    def test_twenty_workers_index_back(self):
        for team in (STAIRS, STAIRS[::-1], [40] * 20, MIXED):
            for many, total in enumerate(counts(team)):
                for index in {0, total // 3, total // 2, total - 2, total - 1}:
                    if 0 <= index < total:
                        self.check_index(team, many, index, total)

    def check_index(self, team, many, index, total):
        way = nth_way(team, many, index)
        self.assertIs(is_way(team, way), True)
        self.assertEqual(len(way) - way.count(None), many)
        self.assertEqual(way_index(team, way), index)
        behind = nth_way(team, many, index + 1) if index + 1 < total else None
        self.assertEqual(next_way(team, way), behind)


class WrongInputsTest(unittest.TestCase):
    def test_sizes_out_of_bounds(self):
        for many in (-1, 4, 20, 10 ** 30, -(10 ** 30), True, False):
            with self.assertRaises(InvalidNumber):
                nth_way(EXAMPLE, many, 0)

    def test_indices_out_of_bounds(self):
        for index in (-1, 4, 10 ** 30, -(10 ** 30), True, False):
            with self.assertRaises(InvalidIndex):
                nth_way(EXAMPLE, 2, index)
        for index in (-1, 40 ** 20, 40 ** 20 + 1, 10 ** 60):
            with self.assertRaises(InvalidIndex):
                nth_way(STAIRS, 20, index)

    def test_a_size_without_ways(self):
        for index in (-1, 0, 1):
            with self.assertRaises(InvalidIndex):
                nth_way(EXAMPLE, 3, index)
            with self.assertRaises(InvalidIndex):
                nth_way([0], 1, index)

    def test_no_ways(self):
        for thing in no_ways():
            with self.assertRaises(InvalidWay):
                way_index(EXAMPLE, thing)
            with self.assertRaises(InvalidWay):
                next_way(EXAMPLE, thing)

    def test_first_wrong_argument_decides(self):
        with self.assertRaises(InvalidTeam):
            nth_way([], -1, -1)
        with self.assertRaises(InvalidNumber):
            nth_way(EXAMPLE, 4, -1)
        with self.assertRaises(InvalidTeam):
            way_index([41], [True])
        with self.assertRaises(InvalidTeam):
            next_way([41], [True])


if __name__ == "__main__":
    unittest.main()
