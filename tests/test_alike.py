"""Promises 16 to 18: teams that are alike, and the ascending lists of their levels."""

import unittest
from itertools import combinations_with_replacement
from math import comb

from nestboards.alike import (
    alike_index, are_alike, count_alike, nth_alike, parting, strict_team, unlike_count,
)
from nestboards.counting import counts
from nestboards.errors import InvalidIndex, InvalidTeam
from nestboards.teams import is_team, spare_numbers
from tests.helper import (
    EXAMPLE, GREAT_TEAMS, NO_INDICES, STAIRS, TWINS, ascending_to_four, counts_by_hand, no_teams, some_indices,
    teams_to_four,
)

OF_TWO = (are_alike, parting, unlike_count, alike_index)


def lists_by_counts(n, greatest):
    """The ascending lists of n levels up to the greatest one, by their counts."""
    found = {}
    for levels in combinations_with_replacement(range(greatest + 1), n):
        found.setdefault(tuple(counts_by_hand(list(levels))), []).append(list(levels))
    return found


def is_strict(levels):
    raised = [level for level in levels if level > 0]
    return len(set(raised)) == len(raised)


def parting_by_hand(team, other):
    first, second = spare_numbers(team), spare_numbers(other)
    for number in range(-25, 45):
        if first.count(number) != second.count(number):
            return number
    return None


def unlike_count_by_hand(first, second):
    for size in range(22):
        if (first + [0] * 22)[size] != (second + [0] * 22)[size]:
            return size
    return None


class ExampleTest(unittest.TestCase):
    def test_three_lists(self):
        lists = [[0, 2, 3], [1, 1, 3], [1, 2, 2]]
        self.assertEqual(count_alike(EXAMPLE), 3)
        self.assertEqual([nth_alike(EXAMPLE, index) for index in range(3)], lists)
        self.assertEqual([alike_index(EXAMPLE, other) for other in lists], [0, 1, 2])
        self.assertEqual(strict_team(EXAMPLE), [0, 2, 3])

    def test_two_teams(self):
        self.assertIs(are_alike(EXAMPLE, [3, 0, 2]), True)
        self.assertIs(parting(EXAMPLE, [3, 0, 2]), None)
        self.assertIs(unlike_count(EXAMPLE, [3, 0, 2]), None)
        self.assertIs(are_alike(EXAMPLE, [2, 2, 2]), False)
        self.assertEqual(parting(EXAMPLE, [2, 2, 2]), 1)
        self.assertEqual(unlike_count(EXAMPLE, [2, 2, 2]), 1)
        self.assertIs(unlike_count([1, 3], [2, 2]), None)
        self.assertEqual(unlike_count([1, 4], [2, 3]), 2)
        self.assertEqual(unlike_count([0, 3], [1, 1]), 1)

    def test_parting_is_the_least_number(self):
        self.assertEqual(parting([0], [1]), 0)
        self.assertEqual(parting([40], [39]), 39)
        self.assertEqual(parting([0, 0], [0, 1]), -1)
        self.assertEqual(parting([0] * 20, [0] * 19), -19)

    def test_other_numbers_of_workers(self):
        # Workers of level 0 give no ways: no count parts these, but they are not alike.
        self.assertIs(unlike_count([0], [0, 0]), None)
        self.assertIs(are_alike([0], [0, 0]), False)
        self.assertEqual(parting([0], [0, 0]), -1)
        self.assertIs(unlike_count(EXAMPLE, EXAMPLE + [0] * 17), None)
        self.assertIs(unlike_count([0] * 17 + EXAMPLE, [0, 2, 3]), None)
        self.assertEqual(unlike_count([3], [1, 2]), 2)
        self.assertEqual(unlike_count([1, 2], [3]), 2)


class SmallTeamsTest(unittest.TestCase):
    """All teams of up to four workers with levels to five, against all lists of levels."""

    def test_against_all_ascending_lists(self):
        # Spare numbers are at most 5 here, so that the levels of alike lists are at most 8.
        lists = {n: lists_by_counts(n, 8) for n in range(1, 5)}
        for team in teams_to_four():
            self.check_team(team, lists[len(team)][tuple(counts_by_hand(team))])

    def check_team(self, team, alike):
        self.assertEqual(count_alike(team), len(alike), team)
        for index, other in enumerate(alike):
            self.assertEqual(nth_alike(team, index), other, (team, index))
            self.assertEqual(alike_index(team, other), index, (team, other))
        self.assertEqual([strict_team(team)], [other for other in alike if is_strict(other)], team)
        for index in (-1, len(alike), len(alike) + 1):
            with self.assertRaises(InvalidIndex):
                nth_alike(team, index)

    def test_pairs_of_teams(self):
        teams = ascending_to_four()
        found = {tuple(team): counts_by_hand(team) for team in teams}
        for team in teams:
            for other in teams:
                self.check_pair(team, other, found[tuple(team)], found[tuple(other)])

    def test_pairs_in_any_sequence(self):
        teams = teams_to_four()
        for step in (0, 1, 7, 500):
            for team, other in zip(teams, (teams[step:] + teams[:step])[::-1]):
                self.check_pair(team, other, counts_by_hand(team), counts_by_hand(other))

    def check_pair(self, team, other, first, second):
        self.assertIs(are_alike(team, other), first == second, (team, other))
        self.assertEqual(parting(team, other), parting_by_hand(team, other), (team, other))
        self.assertEqual(unlike_count(team, other), unlike_count_by_hand(first, second), (team, other))

    def test_lists_that_are_not_alike(self):
        teams = teams_to_four(3)
        for team in ascending_to_four(3):
            alike = [nth_alike(team, index) for index in range(count_alike(team))]
            for other in teams:
                if other not in alike:
                    with self.assertRaises(InvalidTeam, msg=(team, other)):
                        alike_index(team, other)

    def test_six_workers(self):
        by_spares = {}
        for levels in combinations_with_replacement(range(10), 6):
            spares = tuple(sorted(level - place for place, level in enumerate(levels)))
            by_spares.setdefault(spares, []).append(list(levels))
        for spares, alike in by_spares.items():
            if max(spares) <= 4:
                self.check_team(alike[-1], alike)


class GreatTeamsTest(unittest.TestCase):
    def test_there_and_back(self):
        for team in GREAT_TEAMS:
            found = counts(team)
            ahead = []
            for index in some_indices(count_alike(team)):
                other = nth_alike(team, index)
                self.assertIs(is_team(other), True)
                self.assertEqual(other, sorted(other))
                self.assertEqual(sorted(spare_numbers(other)), sorted(spare_numbers(team)))
                self.assertEqual(counts(other), found)
                self.assertIs(are_alike(team, other), True)
                self.assertEqual(alike_index(team, other), index)
                self.assertGreater(other, ahead)
                ahead = other

    def test_neighbours_in_the_sequence(self):
        for team in GREAT_TEAMS:
            total = count_alike(team)
            for start in {0, total // 2, max(0, total - 30)}:
                lists = [nth_alike(team, index) for index in range(start, min(start + 30, total))]
                self.assertEqual(lists, sorted(lists))
                self.assertEqual([alike_index(team, other) for other in lists], list(range(start, start + len(lists))))

    def test_the_own_levels_are_among_them(self):
        for team in GREAT_TEAMS:
            self.assertEqual(nth_alike(team, alike_index(team, sorted(team))), sorted(team))

    def test_strict_team(self):
        for team in GREAT_TEAMS:
            found = strict_team(team)
            self.assertIs(is_strict(found), True)
            self.assertEqual(found, sorted(found))
            self.assertEqual(sorted(spare_numbers(found)), sorted(spare_numbers(team)))
            self.assertLess(alike_index(team, found), count_alike(team))

    def test_known_numbers(self):
        self.assertEqual(count_alike([0] * 20), 1)
        self.assertEqual(count_alike(STAIRS), 1)
        self.assertEqual(count_alike([40] * 20), 2 ** 19)
        self.assertEqual(count_alike([1] * 20), 2)
        self.assertEqual(count_alike(TWINS), comb(20, 10))
        self.assertEqual(nth_alike(TWINS, 0), list(range(10)) + list(range(11, 21)))
        self.assertEqual(nth_alike(TWINS, comb(20, 10) - 1), list(range(1, 11)) + list(range(10, 20)))
        self.assertEqual(strict_team([40] * 20), list(range(21, 60, 2)))
        self.assertEqual(strict_team([0] * 20), [0] * 20)
        self.assertEqual(strict_team(STAIRS[::-1]), STAIRS)

    def test_indices_beyond_the_last(self):
        for team in GREAT_TEAMS:
            for index in NO_INDICES + [count_alike(team), count_alike(team) + 1]:
                with self.assertRaises(InvalidIndex):
                    nth_alike(team, index)


class ErrorsTest(unittest.TestCase):
    def test_no_teams_in_each_place(self):
        for thing in no_teams():
            for row in OF_TWO:
                with self.assertRaises(InvalidTeam, msg=thing):
                    row(thing, [1, 2, 2])
                with self.assertRaises(InvalidTeam, msg=thing):
                    row([1, 2, 2], thing)
                with self.assertRaises(InvalidTeam, msg=thing):
                    row(thing, thing)
            for row in (count_alike, strict_team):
                with self.assertRaises(InvalidTeam):
                    row(thing)
            with self.assertRaises(InvalidTeam):
                nth_alike(thing, -1)

    def test_indices_out_of_bounds(self):
        for index in NO_INDICES + [3, 4]:
            with self.assertRaises(InvalidIndex):
                nth_alike(EXAMPLE, index)

    def test_other_that_is_none_of_the_lists(self):
        for other in ([2, 1, 2], [2, 2, 1], [3, 2, 0], [1, 2, 3], [0, 2, 2], [1, 2], [1, 2, 2, 0], [0, 1, 2, 2], [5]):
            with self.assertRaises(InvalidTeam):
                alike_index(EXAMPLE, other)
        # Alike to itself, but not ascending.
        with self.assertRaises(InvalidTeam):
            alike_index(EXAMPLE, EXAMPLE)

    def test_nothing_is_wrong_at_the_bounds(self):
        self.assertEqual(alike_index([40], [40]), 0)
        self.assertEqual(nth_alike([0], 0), [0])
        self.assertEqual(alike_index(STAIRS[::-1], STAIRS), 0)
        self.assertIs(are_alike(STAIRS, [0]), False)
        self.assertEqual(parting(STAIRS, [0]), 0)
        self.assertEqual(unlike_count(STAIRS, [0]), 1)
        self.assertEqual(nth_alike([40] * 20, 2 ** 19 - 1), [40] * 20)


if __name__ == "__main__":
    unittest.main()
