"""Promises 40 and 41: ways of which some pairs are known and others are barred."""

import unittest
from itertools import permutations

from nestboards.barred import barred_share, count_barred, way_barred
from nestboards.counting import counts, greatest_size
from nestboards.errors import (
    InvalidJob, InvalidNumber, InvalidPairs, InvalidTeam, InvalidWorker, NoWay,
)
from nestboards.known import count_with, next_share, nth_with
from nestboards.ways import is_way, nth_way, way_index
from tests.helper import (
    EXAMPLE, GREAT_TEAMS, MIXED, STAIRS, drawn_pairs, has_all, has_none, no_pairs, no_teams, ordered_ways, pair_pool,
    pairs_of, part, size_of, small_teams, teams_to_four, ways_in_order,
)

BY_SIZE = (count_barred, way_barred)


class ExampleTest(unittest.TestCase):
    def test_size_2(self):
        told = [
            ([], [], 4, [1, 0, None]), ([], [(0, 1)], 2, [None, 0, 1]), ([(0, 1)], [(1, 0)], 1, [1, None, 0]),
            ([], [(1, 0), (0, 0)], 1, [1, None, 0]), ([], [(1, 1), (2, 59)], 4, [1, 0, None]),
        ]
        for pairs, barred, ways, first in told:
            self.assertEqual(count_barred(EXAMPLE, pairs, barred, 2), ways, (pairs, barred))
            self.assertEqual(way_barred(EXAMPLE, pairs, barred, 2), first, (pairs, barred))
        self.assertEqual(count_barred(EXAMPLE, [], [(1, 0), (0, 0), (2, 0)], 2), 0)
        self.assertEqual(barred_share(EXAMPLE, [], [(0, 1)], 2, 2, 1), (1, 1))
        self.assertEqual(barred_share(EXAMPLE, [], [(0, 1)], 2, 1, 0), (1, 2))
        self.assertEqual(barred_share(EXAMPLE, [], [(0, 1)], 2, 0, 1), (0, 1))

    def test_a_first_free_job_that_leaves_no_way(self):
        # Worker 0 takes job 1, for then worker 1 is not left with the job that is barred for it.
        self.assertEqual(way_barred([2, 2], [], [(1, 1)], 2), [1, 0])
        self.assertEqual(way_barred([3, 3, 3], [], [(1, 0), (2, 0)], 3), [0, 1, 2])
        self.assertEqual(way_barred([3, 3, 3], [], [(1, 1), (2, 1)], 3), [1, 0, 2])
        self.assertEqual(way_barred([1, 1], [], [(0, 0)], 1), [None, 0])
        # Worker 0, who can do nothing, is no help if worker 1 takes job 1.
        self.assertEqual(way_barred([0, 3, 3], [], [(1, 0), (2, 0), (2, 2)], 2), [None, 2, 1])


class SmallTeamsTest(unittest.TestCase):
    """Promise 41: against all ways of teams of up to four workers."""

    def test_each_single_barred_pair(self):
        for team in small_teams():
            for pair in pair_pool(team):
                self.check_pairs(team, [], [pair])

    def test_drawn_pairs(self):
        for team in teams_to_four():
            for pairs, barred in zip(drawn_pairs(team, 3, 2), drawn_pairs(team + [0], 3, 6)):
                self.check_pairs(team, pairs, [pair for pair in barred if pair[0] < len(team)])

    def test_pairs_barred_and_known(self):
        for team in small_teams():
            for pairs in drawn_pairs(team, 5, 2):
                barred = pairs[:1] + [pair for pair in drawn_pairs(team, 1, 4)[0] if pair not in pairs]
                self.check_pairs(team, pairs, barred)

    def test_the_sequence_does_not_matter(self):
        for team in ([3, 1, 3, 2], [2, 0, 3, 1, 2]):
            for pairs, barred in zip(drawn_pairs(team, 8, 2), drawn_pairs(team, 16, 4)[8:]):
                for many in range(1, 4):
                    told = self.told(team, pairs, barred, many)
                    for other in permutations(barred):
                        self.assertEqual(self.told(team, pairs[::-1], list(other), many), told)

    def told(self, team, pairs, barred, many):
        total = count_barred(team, pairs, barred, many)
        if total == 0:
            return None
        return total, way_barred(team, pairs, barred, many), barred_share(team, pairs, barred, many, 2, 1)

    def check_pairs(self, team, pairs, barred):
        ways = ways_in_order(team)
        for many in range(len(team) + 1):
            found = [way for way in ways if size_of(way) == many and has_all(way, pairs) and has_none(way, barred)]
            self.assertEqual(count_barred(team, pairs, barred, many), len(found), (team, pairs, barred, many))
            if found:
                self.assertEqual(way_barred(team, pairs, barred, many), found[0], (team, pairs, barred, many))
                for worker, job in pair_pool(team):
                    share = part(sum(way[worker] == job for way in found), len(found))
                    self.assertEqual(barred_share(team, pairs, barred, many, worker, job), share, (team, pairs, barred))
            else:
                for row, last in ((way_barred, []), (barred_share, [0, 0])):
                    with self.assertRaises(NoWay, msg=(team, pairs, barred, many)):
                        row(team, pairs, barred, many, *last)


class GreatTeamsTest(unittest.TestCase):
    """Promise 41 of teams of up to twenty workers with six barred pairs."""

    def test_without_barred_pairs(self):
        for team in GREAT_TEAMS:
            many = greatest_size(team)
            pairs = pairs_of(nth_way(team, many, counts(team)[many] // 2))[::3]
            self.assertEqual(count_barred(team, pairs, [], many), count_with(team, pairs, many))
            self.assertEqual(way_barred(team, pairs, [], many), nth_with(team, pairs, many, 0))
            for worker in range(0, len(team), 4):
                share = next_share(team, pairs, many, worker, 1)
                self.assertEqual(barred_share(team, pairs, [], many, worker, 1), share)

    def test_six_barred_pairs(self):
        for team in GREAT_TEAMS:
            greatest = greatest_size(team)
            for many in sorted({0, 1, greatest // 2, greatest - 1, greatest} & set(range(greatest + 1))):
                way = nth_way(team, many, counts(team)[many] - 1)
                first = nth_way(team, many, 0)
                pairs = pairs_of(way)[:1]
                barred = [pair for pair in pairs_of(nth_with(team, pairs, many, 0)) if pair not in pairs_of(way)][-6:]
                barred += [pair for pair in pairs_of(first)[::3] if pair not in pairs_of(way) + barred]
                self.check_way(team, pairs, barred[:6], many, way)

    def check_way(self, team, pairs, barred, many, way):
        found = way_barred(team, pairs, barred, many)
        self.assertIs(is_way(team, found), True)
        self.assertEqual(size_of(found), many)
        self.assertTrue(has_all(found, pairs) and has_none(found, barred))
        self.assertLessEqual(way_index(team, found), way_index(team, way))
        self.check_none_before(team, pairs, barred, many, found)
        total = count_barred(team, pairs, barred, many)
        self.assertTrue(0 < total <= count_with(team, pairs, many))
        for pair in pairs_of(found)[::6] + barred[:2]:
            ways = count_barred(team, pairs + [pair] if pair not in pairs else pairs, barred, many)
            self.assertEqual(barred_share(team, pairs, barred, many, *pair), part(ways, total))

    def check_none_before(self, team, pairs, barred, many, found):
        # The ways with all pairs are looked through in their order; the found one comes soon.
        for index in range(min(count_with(team, pairs, many), 300)):
            way = nth_with(team, pairs, many, index)
            if has_none(way, barred):
                self.assertEqual(way, found)
                return

    def test_ways_next_to_one_another(self):
        # Six barred pairs of one worker, or of one job.
        barred = [(0, job) for job in range(6)]
        self.assertEqual(way_barred([20] * 20, [], barred, 20), [6, 0, 1, 2, 3, 4, 5] + list(range(7, 20)))
        barred = [(worker, 0) for worker in range(6)]
        self.assertEqual(way_barred([20] * 20, [], barred, 20), [1, 2, 3, 4, 5, 6, 0] + list(range(7, 20)))
        self.assertEqual(way_barred(STAIRS, [(19, 0)], [(0, 1), (1, 2)], 20)[:4], [2, 1, 3, 4])
        barred = [(worker, 19) for worker in range(14, 20)]
        self.assertEqual(way_barred([20] * 20, [], barred, 20), list(range(13)) + [19] + list(range(13, 19)))
        barred = [(worker, 0) for worker in range(6)]
        self.assertEqual(way_barred([1] * 20, [], barred, 1), [None] * 6 + [0] + [None] * 13)
        self.assertEqual(count_barred([1] * 20, [], barred, 1), 14)
        self.assertEqual(way_barred([0] * 19 + [59], [], [(19, job) for job in range(6)], 1), [None] * 19 + [6])


class RulesTest(unittest.TestCase):
    def test_lists_are_new_and_arguments_stay(self):
        team, pairs, barred = list(MIXED), [(5, 7), (0, 1)], [(4, 24), (9, 0), (3, 3)]
        arguments = {"team": team, "pairs": pairs, "barred": barred, "many": 9}
        first, second = way_barred(**arguments), way_barred(*arguments.values())
        self.assertEqual(first, second)
        first.clear()
        self.assertEqual(way_barred(**arguments), second)
        ways = count_barred(many=9, barred=barred, pairs=pairs, team=team)
        self.assertEqual(ways, count_barred(team, pairs, barred, 9))
        share = barred_share(job=3, worker=8, many=9, barred=barred, pairs=pairs, team=team)
        self.assertEqual(share, barred_share(team, pairs, barred, 9, 8, 3))
        self.assertEqual((team, pairs, barred), (MIXED, [(5, 7), (0, 1)], [(4, 24), (9, 0), (3, 3)]))


class ErrorsTest(unittest.TestCase):
    """Promise 40 for barred pairs."""

    def check(self, error, row, *arguments):
        with self.assertRaises(error, msg=(row.__name__, arguments)):
            row(*arguments)

    def check_all(self, error, team, pairs, barred):
        for row in BY_SIZE:
            self.check(error, row, team, pairs, barred, 1)
        self.check(error, barred_share, team, pairs, barred, 1, 0, 0)

    def test_no_teams(self):
        for team in no_teams():
            self.check_all(InvalidTeam, team, [], [])

    def test_no_pairs(self):
        for pairs in no_pairs():
            self.check_all(InvalidPairs, EXAMPLE, pairs, [])
            self.check_all(InvalidPairs, EXAMPLE, [], pairs)
        self.check_all(InvalidPairs, EXAMPLE, [], [(0, job) for job in range(7)])
        self.check_all(InvalidPairs, EXAMPLE, [], [(0, 0), (1, 0), (0, 0)])
        self.check_all(InvalidPairs, EXAMPLE, [], [(1, 1), (3, 0)])

    def test_sizes_workers_and_jobs_out_of_bounds(self):
        for many in (-1, 4, 10 ** 30, -(10 ** 30), True, False):
            for row in BY_SIZE:
                self.check(InvalidNumber, row, EXAMPLE, [], [], many)
            self.check(InvalidNumber, barred_share, EXAMPLE, [], [], many, 0, 0)
        for number in (-1, 60, 10 ** 30, -(10 ** 30), True, False):
            self.check(InvalidWorker, barred_share, EXAMPLE, [], [(0, 1)], 2, number, 0)
            self.check(InvalidJob, barred_share, EXAMPLE, [], [(0, 1)], 2, 0, number)
        self.check(InvalidWorker, barred_share, EXAMPLE, [], [], 2, 3, 0)

    def test_no_way(self):
        none = [([], [], 3), ([(0, 1)], [(0, 1)], 2), ([(0, 1)], [], 0), ([(1, 1)], [], 1)]
        none += [([], [(1, 0), (0, 0), (2, 0)], 2), ([(0, 0), (1, 0)], [(2, 1)], 2)]
        for pairs, barred, many in none:
            self.assertEqual(count_barred(EXAMPLE, pairs, barred, many), 0)
            self.check(NoWay, way_barred, EXAMPLE, pairs, barred, many)
            self.check(NoWay, barred_share, EXAMPLE, pairs, barred, many, 0, 0)

    def test_first_wrong_argument_decides(self):
        self.check_all(InvalidTeam, [], [(0, 60)], [(0, 60)])
        for row in BY_SIZE:
            self.check(InvalidPairs, row, EXAMPLE, [(3, 0)], [], 4)
            self.check(InvalidPairs, row, EXAMPLE, [], [(3, 0)], 4)
            self.check(InvalidNumber, row, EXAMPLE, [(1, 1)], [(1, 1)], 4)
        self.check(InvalidPairs, barred_share, EXAMPLE, [], [(3, 0)], 4, 3, 60)
        self.check(InvalidNumber, barred_share, EXAMPLE, [], [], 4, 3, 60)
        self.check(InvalidWorker, barred_share, EXAMPLE, [], [], 3, 3, 60)
        self.check(InvalidJob, barred_share, EXAMPLE, [], [], 3, 2, 60)

    def test_nothing_is_wrong_at_the_bounds(self):
        twenty = [(worker, level - 1) for worker, level in enumerate(STAIRS)]
        six = [(worker, 59) for worker in range(6)]
        self.assertEqual(count_barred(STAIRS, twenty, six, 20), 1)
        self.assertEqual(way_barred(STAIRS, twenty, six, 20), list(range(39, 59)))
        self.assertEqual(barred_share(STAIRS, twenty, six, 20, 19, 58), (1, 1))
        self.assertEqual(barred_share(STAIRS, twenty, six, 20, 19, 59), (0, 1))
        self.assertEqual(count_barred([0], [], [(0, job) for job in range(6)], 0), 1)
        self.assertEqual(ordered_ways(EXAMPLE, 2)[0], way_barred(EXAMPLE, [], [], 2))


if __name__ == "__main__":
    unittest.main()
