"""Promises 28 to 31: full lists by their hits."""

import unittest
from fractions import Fraction
from math import factorial

from nestboards.counting import counts
from nestboards.errors import InvalidIndex, InvalidJob, InvalidList, InvalidNumber, InvalidTeam, InvalidWorker, NoWay
from nestboards.hits import hit_counts, hits_of, list_index, mean_hits, nth_list, pair_by_hits
from tests.helper import (
    EXAMPLE, HIT_TEAMS, NO_INDICES, as_tuple, full_lists, hits_by_hand, no_full_lists, no_teams, some_indices,
    teams_to_four,
)


def teams_with_lists():
    """All teams of up to four workers that full lists may have, and some of five and six."""
    teams = [team for team in teams_to_four(4) if max(team) <= len(team)]
    return teams + [[5, 0, 3, 3, 1], [2, 2, 2, 2, 2], [5, 5, 5, 4, 5], [0, 1, 2, 3, 4], [4, 6, 1, 0, 3, 3]]


class ExampleTest(unittest.TestCase):
    def test_example(self):
        self.assertEqual(hit_counts(EXAMPLE), [0, 2, 4, 0])
        with_one = [[0, 1, 2], [2, 1, 0]]
        with_two = [[0, 2, 1], [1, 0, 2], [1, 2, 0], [2, 0, 1]]
        self.assertEqual([hits_of(EXAMPLE, names) for names in with_one + with_two], [1, 1, 2, 2, 2, 2])
        self.assertEqual([nth_list(EXAMPLE, 1, index) for index in range(2)], with_one)
        self.assertEqual([nth_list(EXAMPLE, 2, index) for index in range(4)], with_two)
        self.assertEqual([list_index(EXAMPLE, names) for names in with_one + with_two], [0, 1, 0, 1, 2, 3])

    def test_shares_and_mean(self):
        self.assertEqual(mean_hits(EXAMPLE), (5, 3))
        self.assertEqual(pair_by_hits(EXAMPLE, 1, 0, 2), (1, 2))
        self.assertEqual(pair_by_hits(EXAMPLE, 1, 0, 1), (0, 1))
        self.assertEqual(pair_by_hits(EXAMPLE, 1, 1, 1), (1, 1))

    def test_one_worker(self):
        self.assertEqual((hit_counts([0]), hit_counts([1])), ([1, 0], [0, 1]))
        self.assertEqual((nth_list([0], 0, 0), nth_list([1], 1, 0)), ([0], [0]))
        self.assertEqual((list_index([0], [0]), list_index([1], [0])), (0, 0))
        self.assertEqual((hits_of([0], [0]), hits_of([1], [0])), (0, 1))
        self.assertEqual((mean_hits([0]), mean_hits([1])), ((0, 1), (1, 1)))
        self.assertEqual(pair_by_hits([1], 0, 0, 1), (1, 1))


class SmallTeamsTest(unittest.TestCase):
    """Small teams against all their full lists."""

    def test_against_all_full_lists(self):
        for team in teams_with_lists():
            by_hits = {hits: [] for hits in range(len(team) + 1)}
            for names in full_lists(len(team)):
                by_hits[hits_by_hand(team, names)].append(names)
            self.assertEqual(hit_counts(team), [len(lists) for lists in by_hits.values()], team)
            mean = Fraction(sum(hits * len(lists) for hits, lists in by_hits.items()), factorial(len(team)))
            self.assertEqual(mean_hits(team), as_tuple(mean), team)
            for hits, lists in by_hits.items():
                self.check_lists(team, hits, lists)
                self.check_shares(team, hits, lists)

    def check_lists(self, team, hits, lists):
        for index, names in enumerate(lists):
            self.assertEqual(hits_of(team, names), hits, (team, names))
            self.assertEqual(nth_list(team, hits, index), names, (team, hits, index))
            self.assertEqual(list_index(team, names), index, (team, names))
        for index in (-1, len(lists), len(lists) + 1):
            with self.assertRaises(InvalidIndex):
                nth_list(team, hits, index)

    def check_shares(self, team, hits, lists):
        for worker in range(len(team)):
            for job in range(len(team)):
                if lists:
                    share = Fraction(len([names for names in lists if names[worker] == job]), len(lists))
                    self.assertEqual(pair_by_hits(team, worker, job, hits), as_tuple(share), (team, worker, job, hits))
                else:
                    with self.assertRaises(NoWay):
                        pair_by_hits(team, worker, job, hits)


class GreatTeamsTest(unittest.TestCase):
    def test_all_together_are_all_full_lists(self):
        for team in HIT_TEAMS:
            found = hit_counts(team)
            self.assertEqual(len(found), 21)
            self.assertEqual(sum(found), factorial(20))
            self.assertGreaterEqual(min(found), 0)

    def test_r4(self):
        for team in HIT_TEAMS + teams_with_lists():
            n = len(team)
            by_hits, by_size = hit_counts(team), counts(team)
            for x in range(-3, n + 3):
                left = sum(by_hits[j] * x ** j for j in range(n + 1))
                right = sum(by_size[k] * factorial(n - k) * (x - 1) ** k for k in range(n + 1))
                self.assertEqual(left, right, (team, x))

    def test_mean(self):
        for team in HIT_TEAMS:
            found = hit_counts(team)
            mean = Fraction(sum(hits * lists for hits, lists in enumerate(found)), factorial(20))
            self.assertEqual(mean_hits(team), as_tuple(mean))

    def test_there_and_back(self):
        for team in HIT_TEAMS:
            for hits, total in enumerate(hit_counts(team)):
                ahead = []
                for index in some_indices(total):
                    names = nth_list(team, hits, index)
                    self.assertEqual(sorted(names), list(range(20)))
                    self.assertEqual(hits_of(team, names), hits)
                    self.assertEqual(hits_by_hand(team, names), hits)
                    self.assertEqual(list_index(team, names), index)
                    self.assertGreater(names, ahead)
                    ahead = names
                for index in (-1, total, total + 1):
                    with self.assertRaises(InvalidIndex):
                        nth_list(team, hits, index)

    def test_neighbours_in_the_sequence(self):
        for team in HIT_TEAMS[2:]:
            for hits, total in enumerate(hit_counts(team)):
                first = total // 3
                lists = [nth_list(team, hits, index) for index in range(first, min(first + 9, total))]
                self.assertEqual(lists, sorted(lists))
                self.assertEqual([list_index(team, names) - first for names in lists], list(range(len(lists))))

    def test_known_numbers(self):
        all_hit, none_hit = HIT_TEAMS[0], HIT_TEAMS[1]
        self.assertEqual(hit_counts(all_hit), [0] * 20 + [factorial(20)])
        self.assertEqual(hit_counts(none_hit), [factorial(20)] + [0] * 20)
        self.assertEqual(nth_list(all_hit, 20, 0), list(range(20)))
        self.assertEqual(nth_list(none_hit, 0, factorial(20) - 1), list(range(19, -1, -1)))
        self.assertEqual(list_index(none_hit, list(range(19, -1, -1))), factorial(20) - 1)
        self.assertEqual(hit_counts([10] * 20), [0] * 10 + [factorial(20)] + [0] * 10)
        self.assertEqual((mean_hits(all_hit), mean_hits(none_hit), mean_hits([10] * 20)), ((20, 1), (0, 1), (10, 1)))

    def test_shares_by_the_lists_themselves(self):
        # Equal workers share each job equally, by its side of the level.
        self.assertEqual(pair_by_hits([10] * 20, 3, 4, 10), (1, 20))
        self.assertEqual(pair_by_hits([10] * 20, 19, 19, 10), (1, 20))
        self.assertEqual(pair_by_hits([0] * 19 + [20], 19, 7, 1), (1, 20))


class ErrorsTest(unittest.TestCase):
    def test_no_teams(self):
        for team in no_teams() + [[2], [40], [0, 3], [4, 0, 0], [20] * 19 + [21], [0] * 19 + [59], [2, 1, 4]]:
            for row in (hit_counts, mean_hits):
                with self.assertRaises(InvalidTeam, msg=team):
                    row(team)
            for row in (hits_of, list_index):
                with self.assertRaises(InvalidTeam, msg=team):
                    row(team, None)
            with self.assertRaises(InvalidTeam, msg=team):
                nth_list(team, -1, -1)
            with self.assertRaises(InvalidTeam, msg=team):
                pair_by_hits(team, -1, -1, -1)

    def test_no_full_lists(self):
        for names in no_full_lists():
            for row in (hits_of, list_index):
                with self.assertRaises(InvalidList, msg=names):
                    row(EXAMPLE, names)

    def test_hits_out_of_bounds(self):
        for hits in (-1, 4, 20, 10 ** 30, -(10 ** 30), True, False):
            with self.assertRaises(InvalidNumber):
                nth_list(EXAMPLE, hits, 0)
            with self.assertRaises(InvalidNumber):
                pair_by_hits(EXAMPLE, 0, 0, hits)

    def test_indices_out_of_bounds(self):
        for index in NO_INDICES + [2, 3]:
            with self.assertRaises(InvalidIndex):
                nth_list(EXAMPLE, 1, index)

    def test_hits_that_no_list_has(self):
        for hits in (0, 3):
            with self.assertRaises(InvalidIndex):
                nth_list(EXAMPLE, hits, 0)
            for worker in range(3):
                for job in range(3):
                    with self.assertRaises(NoWay):
                        pair_by_hits(EXAMPLE, worker, job, hits)

    def test_workers_and_jobs_out_of_bounds(self):
        for number in (-1, 3, 20, 59, 60, 10 ** 30, -(10 ** 30), True, False):
            with self.assertRaises(InvalidWorker):
                pair_by_hits(EXAMPLE, number, 0, 1)
            with self.assertRaises(InvalidJob):
                pair_by_hits(EXAMPLE, 0, number, 1)

    def test_first_wrong_argument_decides(self):
        with self.assertRaises(InvalidTeam):
            pair_by_hits([2], 1, 1, 2)
        with self.assertRaises(InvalidWorker):
            pair_by_hits(EXAMPLE, 3, 3, 4)
        with self.assertRaises(InvalidJob):
            pair_by_hits(EXAMPLE, 2, 3, 4)
        with self.assertRaises(InvalidNumber):
            pair_by_hits(EXAMPLE, 2, 2, 4)
        with self.assertRaises(InvalidNumber):
            nth_list(EXAMPLE, 4, -1)
        with self.assertRaises(InvalidTeam):
            hits_of([2], [1])

    def test_nothing_is_wrong_at_the_bounds(self):
        self.assertEqual(hit_counts([2, 2]), [0, 0, 2])
        self.assertEqual(nth_list([20] * 20, 20, factorial(20) - 1), list(range(19, -1, -1)))
        self.assertEqual(pair_by_hits([20] * 20, 19, 19, 20), (1, 20))
        self.assertEqual(pair_by_hits([0] * 20, 0, 0, 0), (1, 20))
        self.assertEqual(nth_list([0], 0, 0), [0])


if __name__ == "__main__":
    unittest.main()
