"""Promises 13 to 15: the skips of ways, their numbers, and ways by their skips."""

import unittest
from fractions import Fraction

from nestboards.counting import counts, greatest_size
from nestboards.errors import InvalidIndex, InvalidNumber, InvalidTeam, InvalidWay, NoWay
from nestboards.skips import (
    greatest_skips, least_skips, mean_skips, nth_by_skips, skip_counts, skips_by_worker, skips_index, skips_of,
)
from nestboards.teams import spare_numbers
from nestboards.ways import is_way, way_index
from tests.helper import (
    EXAMPLE, GREAT_TEAMS, NO_INDICES, STAIRS, as_tuple, no_teams, no_ways, size_of, skips_by_hand, some_indices,
    teams_to_four, ways_in_order,
)

BY_SIZE = (least_skips, greatest_skips, mean_skips, skip_counts)


def grouped(team):
    """All ways of a team in their order, by size and number of skips."""
    found = {}
    for way in ways_in_order(team):
        found.setdefault((size_of(way), sum(skips_by_hand(team, way))), []).append(way)
    return found


def product_of_ones(lengths):
    """The coefficients of the product of all 1 + q + .. with so many parts."""
    found = [1]
    for length in lengths:
        longer = [0] * (len(found) + length - 1)
        for place, number in enumerate(found):
            for step in range(length):
                longer[place + step] += number
        found = longer
    return found


class ExampleTest(unittest.TestCase):
    def test_size_2(self):
        ways = [[1, 0, None], [None, 0, 1], [0, None, 1], [1, None, 0]]
        self.assertEqual([skips_of(EXAMPLE, way) for way in ways], [0, 1, 1, 2])
        by_worker = [[0, 0, 0], [1, 0, 0], [0, 1, 0], [1, 1, 0]]
        self.assertEqual([skips_by_worker(EXAMPLE, way) for way in ways], by_worker)
        self.assertEqual(skip_counts(EXAMPLE, 2), [1, 2, 1])
        self.assertEqual([skips_index(EXAMPLE, way) for way in ways], [0, 0, 1, 0])
        self.assertEqual(nth_by_skips(EXAMPLE, 2, 1, 0), [None, 0, 1])
        self.assertEqual(nth_by_skips(EXAMPLE, 2, 1, 1), [0, None, 1])
        self.assertEqual([row(EXAMPLE, 2) for row in BY_SIZE], [0, 2, (1, 1), [1, 2, 1]])

    def test_other_sizes(self):
        self.assertEqual(skip_counts(EXAMPLE, 1), [0, 0, 2, 2, 1])
        self.assertEqual([row(EXAMPLE, 1) for row in BY_SIZE[:3]], [2, 4, (14, 5)])
        self.assertEqual(skip_counts(EXAMPLE, 0), [0, 0, 0, 0, 0, 1])
        self.assertEqual([row(EXAMPLE, 0) for row in BY_SIZE[:3]], [5, 5, (5, 1)])
        self.assertEqual(skip_counts(EXAMPLE, 3), [])

    def test_one_worker(self):
        self.assertEqual(skip_counts([40], 1), [1] * 40)
        self.assertEqual(skip_counts([40], 0), [0] * 40 + [1])
        self.assertEqual(nth_by_skips([40], 1, 39, 0), [39])
        self.assertEqual(mean_skips([40], 1), (39, 2))
        self.assertEqual(skip_counts([0], 0), [1])
        self.assertEqual(skip_counts([0], 1), [])


class SmallTeamsTest(unittest.TestCase):
    """All teams of up to four workers with levels to five, against all their ways."""

    def test_against_all_ways(self):
        for team in teams_to_four():
            groups = grouped(team)
            for many in range(len(team) + 1):
                self.check_counts(team, many, {key[1]: len(ways) for key, ways in groups.items() if key[0] == many})
            for (many, skips), ways in groups.items():
                self.check_ways(team, many, skips, ways)

    def check_counts(self, team, many, found):
        numbers = [found.get(skips, 0) for skips in range(max(found, default=-1) + 1)]
        self.assertEqual(skip_counts(team, many), numbers, (team, many))
        if found:
            self.assertEqual(least_skips(team, many), min(found), (team, many))
            self.assertEqual(greatest_skips(team, many), max(found), (team, many))
            mean = Fraction(sum(skips * ways for skips, ways in found.items()), sum(found.values()))
            self.assertEqual(mean_skips(team, many), as_tuple(mean), (team, many))
        else:
            for row in BY_SIZE[:3]:
                with self.assertRaises(NoWay):
                    row(team, many)
        for skips in {0, 1, max(found, default=0), max(found, default=0) + 1}:
            with self.assertRaises(InvalidIndex):
                nth_by_skips(team, many, skips, found.get(skips, 0))

    def check_ways(self, team, many, skips, ways):
        for index, way in enumerate(ways):
            by_worker = skips_by_hand(team, way)
            self.assertEqual(skips_by_worker(team, way), by_worker, (team, way))
            self.assertEqual(skips_of(team, way), skips, (team, way))
            self.assertEqual(nth_by_skips(team, many, skips, index), way, (team, many, skips, index))
            self.assertEqual(skips_index(team, way), index, (team, way))


class GreatTeamsTest(unittest.TestCase):
    def test_all_together_come_to_the_counts(self):
        for team in GREAT_TEAMS:
            for many, ways in enumerate(counts(team)):
                found = skip_counts(team, many)
                self.assertEqual(sum(found), ways)
                self.assertTrue(found == [] or found[-1] > 0)

    def test_size_n_is_the_product_of_r3(self):
        for team in GREAT_TEAMS:
            found = skip_counts(team, len(team))
            if greatest_size(team) == len(team):
                self.assertEqual(found, product_of_ones(spare_numbers(team)))
            else:
                self.assertEqual(found, [])

    def test_known_numbers(self):
        self.assertEqual(skip_counts([0] * 20, 0), [1])
        self.assertEqual(skip_counts(STAIRS, 0), [0] * sum(STAIRS) + [1])
        self.assertEqual(skip_counts([20] * 20, 20)[:3], [1, 19, 189])
        self.assertEqual((least_skips(STAIRS, 20), greatest_skips(STAIRS, 20)), (0, 39 * 20))
        self.assertEqual(mean_skips(STAIRS, 20), (390, 1))

    def test_least_greatest_and_mean(self):
        for team in GREAT_TEAMS:
            for many in range(0, greatest_size(team) + 1, 3):
                found = skip_counts(team, many)
                there = [skips for skips, ways in enumerate(found) if ways]
                mean = Fraction(sum(skips * found[skips] for skips in there), sum(found))
                self.assertEqual(least_skips(team, many), there[0])
                self.assertEqual(greatest_skips(team, many), there[-1])
                self.assertEqual(mean_skips(team, many), as_tuple(mean))

    def test_there_and_back(self):
        for team in GREAT_TEAMS:
            greatest = greatest_size(team)
            for many in sorted({0, 1, greatest // 2, greatest - 1, greatest}):
                if 0 <= many <= greatest:
                    self.check_size(team, many)

    def check_size(self, team, many):
        found = skip_counts(team, many)
        least, most = least_skips(team, many), greatest_skips(team, many)
        for skips in sorted({least, (least + most) // 2, most}):
            ahead = -1
            for index in some_indices(found[skips]):
                way = nth_by_skips(team, many, skips, index)
                self.assertIs(is_way(team, way), True)
                self.assertEqual((size_of(way), skips_of(team, way)), (many, skips))
                self.assertEqual(skips_by_worker(team, way), skips_by_hand(team, way))
                self.assertEqual(skips_index(team, way), index)
                self.assertGreater(way_index(team, way), ahead)
                ahead = way_index(team, way)
            with self.assertRaises(InvalidIndex):
                nth_by_skips(team, many, skips, found[skips])


class ErrorsTest(unittest.TestCase):
    def test_no_teams(self):
        for team in no_teams():
            for row in BY_SIZE:
                with self.assertRaises(InvalidTeam):
                    row(team, 0)
            for row in (skips_of, skips_by_worker, skips_index):
                with self.assertRaises(InvalidTeam):
                    row(team, [None])
            with self.assertRaises(InvalidTeam):
                nth_by_skips(team, 0, 0, 0)

    def test_no_ways(self):
        for way in no_ways():
            for row in (skips_of, skips_by_worker, skips_index):
                with self.assertRaises(InvalidWay, msg=way):
                    row(EXAMPLE, way)

    def test_sizes_out_of_bounds(self):
        for many in (-1, 4, 21, 10 ** 30, -(10 ** 30), True, False):
            for row in BY_SIZE:
                with self.assertRaises(InvalidNumber):
                    row(EXAMPLE, many)
            with self.assertRaises(InvalidNumber):
                nth_by_skips(EXAMPLE, many, 0, 0)

    def test_skips_below_0(self):
        for skips in (-1, -2, -(10 ** 30), True, False):
            with self.assertRaises(InvalidNumber):
                nth_by_skips(EXAMPLE, 2, skips, 0)

    def test_skips_that_no_way_has(self):
        for skips in (3, 4, 10 ** 30, 10 ** 31 - 1):
            for index in (0, 1, -1, 10 ** 30):
                with self.assertRaises(InvalidIndex):
                    nth_by_skips(EXAMPLE, 2, skips, index)
        with self.assertRaises(InvalidIndex):
            nth_by_skips(EXAMPLE, 1, 0, 0)

    def test_indices_out_of_bounds(self):
        for index in NO_INDICES + [2, 3]:
            with self.assertRaises(InvalidIndex):
                nth_by_skips(EXAMPLE, 2, 1, index)

    def test_sizes_without_ways(self):
        for team, many in ((EXAMPLE, 3), ([0], 1), ([0] * 20, 20), ([19] * 20, 20), ([1] * 20, 2)):
            self.assertEqual(skip_counts(team, many), [])
            for row in BY_SIZE[:3]:
                with self.assertRaises(NoWay):
                    row(team, many)
            for skips in (0, 1, 10 ** 30):
                with self.assertRaises(InvalidIndex):
                    nth_by_skips(team, many, skips, 0)

    def test_nothing_is_wrong_at_the_bounds(self):
        self.assertEqual(mean_skips([0], 0), (0, 1))
        self.assertEqual(nth_by_skips([0], 0, 0, 0), [None])
        self.assertEqual(nth_by_skips(STAIRS, 20, 780, 0), list(range(39, 59)))
        self.assertEqual(nth_by_skips(STAIRS, 0, sum(STAIRS), 0), [None] * 20)
        self.assertEqual(skips_of([40] * 20, [None] * 20), 800)

    def test_first_wrong_argument_decides(self):
        with self.assertRaises(InvalidTeam):
            nth_by_skips([41], -1, -1, -1)
        with self.assertRaises(InvalidNumber):
            nth_by_skips(EXAMPLE, 4, 0, -1)
        with self.assertRaises(InvalidNumber):
            nth_by_skips(EXAMPLE, 3, -1, -1)
        with self.assertRaises(InvalidIndex):
            nth_by_skips(EXAMPLE, 3, 0, -1)
        for row in (skips_of, skips_by_worker, skips_index):
            with self.assertRaises(InvalidTeam):
                row([], [True])
        for row in BY_SIZE[:3]:
            with self.assertRaises(InvalidNumber):
                row([0], 2)


if __name__ == "__main__":
    unittest.main()
