"""Promises 52 to 54: one level told wrong, and pairs that do not go together."""

import unittest
from itertools import combinations
from random import Random

from nestboards.counting import counts
from nestboards.errors import InvalidCounts, InvalidPairs, InvalidTeam
from nestboards.slips import fewest_out, kept_pairs, one_level, wrong_pairs
from nestboards.teams import is_team
from tests.helper import (
    EXAMPLE, GREAT_TEAMS, MIXED, STAIRS, TWINS, counts_by_hand, drawn_pairs, no_counts, no_pairs, no_teams, pair_pool,
    small_teams, teams_to_four,
)

OF_PAIRS = (wrong_pairs, fewest_out, kept_pairs)


def with_level(team, worker, level):
    return team[:worker] + [level] + team[worker + 1:]


def go_together(team, pairs):
    """Whether these pairs are some way's: all can be done, no worker and no job stands twice."""
    if any(job >= team[worker] for worker, job in pairs):
        return False
    return all(len({pair[side] for pair in pairs}) == len(pairs) for side in (0, 1))


def kept_by_hand(team, pairs):
    """The first of the greatest lists of indices that go together, of all lists there are."""
    for many in range(len(pairs), -1, -1):
        for places in combinations(range(len(pairs)), many):
            if go_together(team, [pairs[place] for place in places]):
                return list(places)


def most_by_hand(team, pairs):
    """The greatest number of pairs that go together, by which workers the jobs can go to."""
    reached = {frozenset()}
    for job in sorted({job for _, job in pairs}):
        able = [worker for worker, other in pairs if other == job and job < team[worker]]
        reached |= {busy | {worker} for busy in reached for worker in able if worker not in busy}
    return max(map(len, reached))


class ExampleTest(unittest.TestCase):
    def test_one_level(self):
        self.assertEqual(one_level(EXAMPLE, [1, 5, 4, 0]), [(0, 2), (1, 1), (2, 2)])
        self.assertEqual(one_level([2, 1, 7], [1, 5, 4, 0]), [(2, 2)])
        # The lists [3, 0, 2] and [3, 1, 1] have these counts, too.
        self.assertEqual(one_level([3, 1, 2], [1, 5, 4, 0]), [(0, 2), (1, 0), (2, 1)])
        self.assertEqual(one_level([7, 7, 7], [1, 5, 4, 0]), [])
        self.assertEqual(one_level([2, 1], [1, 5, 4, 0]), [])
        self.assertEqual(one_level([2, 1, 2, 0], [1, 5, 4, 0]), [])
        self.assertEqual(one_level([0], [1, 40]), [(0, 40)])
        self.assertEqual(one_level([0], [1, 41]), [])
        self.assertEqual(one_level([3], [2, 3]), [])
        self.assertEqual(one_level([0] * 20, [1, 59] + [0] * 19), [(worker, 59) for worker in range(20)])

    def test_pairs(self):
        told = [
            ([], [], 0, []), ([(0, 1), (1, 0)], [], 0, [0, 1]), ([(0, 1), (0, 0), (1, 0)], [], 1, [0, 2]),
            ([(0, 0), (1, 0), (2, 1)], [], 1, [0, 2]), ([(1, 1), (1, 0), (0, 59)], [0, 2], 2, [1]),
            ([(1, 1), (2, 2)], [0, 1], 2, []), ([(0, 0), (0, 1), (2, 0), (2, 1)], [], 2, [0, 3]),
            ([(0, 0), (1, 0), (0, 1)], [], 1, [1, 2]),
        ]
        for pairs, wrong, out, kept in told:
            self.assertEqual([row(EXAMPLE, pairs) for row in OF_PAIRS], [wrong, out, kept], pairs)


class SmallTeamsTest(unittest.TestCase):
    """Promise 52: against all levels and all lists of indices."""

    def test_one_level_by_all_ways(self):
        for team in [team for team in small_teams() if len(team) < 4]:
            found = {}
            for worker in range(len(team)):
                for level in range(8):
                    told = tuple(counts_by_hand(with_level(team, worker, level)))
                    found.setdefault(told, []).append((worker, level))
            for told, rows in found.items():
                # With a greater level the counts would be greater, too.
                if told[1] < 8:
                    self.assertEqual(one_level(team, list(told)), rows, (team, told))

    def test_one_level_by_all_levels(self):
        for team in teams_to_four(3)[::3] + [[40], [0, 41], [9, 0, 42], [5, 2, 2, 5, 1]]:
            found = {}
            for worker in range(len(team)):
                for level in range(62):
                    other = with_level(team, worker, level)
                    if is_team(other):
                        found.setdefault(tuple(counts(other)), []).append((worker, level))
            for told, rows in found.items():
                self.assertEqual(one_level(team, list(told)), rows, (team, told))

    def test_counts_that_are_bent(self):
        for team in teams_to_four(3)[::5]:
            told = counts(team)
            for place in range(len(told)):
                bent = told[:place] + [told[place] + 1] + told[place + 1:]
                rows = [
                    (worker, level) for worker in range(len(team)) for level in range(12)
                    if counts(with_level(team, worker, level)) == bent
                ]
                self.assertEqual(one_level(team, bent), rows, (team, bent))
            self.assertEqual(one_level(team, told + [0]), [])
            self.assertEqual(one_level(team, told[:-1]) if len(told) > 2 else [], [])

    def test_pairs_by_all_lists_of_indices(self):
        for team in small_teams():
            for pairs in drawn_pairs(team, 4, 9):
                wrong = [place for place, pair in enumerate(pairs) if not go_together(team, [pair])]
                kept = kept_by_hand(team, pairs)
                told = [row(team, pairs) for row in OF_PAIRS]
                self.assertEqual(told, [wrong, len(pairs) - len(kept), kept], (team, pairs))

    def test_all_pairs_of_a_team(self):
        for team in [[2, 1, 2], [3, 3], [1, 1, 1], [3, 2, 1], [2, 2, 2], [0, 0, 3], [4, 1]]:
            for pairs in (pair_pool(team)[:9], pair_pool(team)[::-1][:9], pair_pool(team)[::2]):
                kept = kept_by_hand(team, pairs)
                self.assertEqual(kept_pairs(team, pairs), kept)
                self.assertEqual(fewest_out(team, pairs), len(pairs) - len(kept))


def drawn_twenty(team, seed, workers, jobs):
    """Twenty unlike pairs of so many workers and jobs."""
    drawn = Random(seed)
    pool = [(worker, job) for worker in range(min(workers, len(team))) for job in range(jobs)]
    return drawn.sample(pool, 20)


class GreatTeamsTest(unittest.TestCase):
    """Promise 53: twenty workers and twenty pairs."""

    def test_twenty_pairs(self):
        for team in GREAT_TEAMS:
            for workers, jobs in ((4, 6), (8, 8), (12, 5), (12, 30)):
                for seed in range(3):
                    self.check_pairs(team, drawn_twenty(team, seed, workers, jobs))

    def check_pairs(self, team, pairs):
        wrong = wrong_pairs(team, pairs)
        self.assertEqual(wrong, [place for place, (worker, job) in enumerate(pairs) if job >= team[worker]])
        kept = kept_pairs(team, pairs)
        self.assertEqual(len(kept), most_by_hand(team, pairs))
        self.assertEqual(fewest_out(team, pairs), 20 - len(kept))
        self.assertEqual(kept, sorted(set(kept)))
        self.assertTrue(go_together(team, [pairs[place] for place in kept]))
        for place in range(20):
            if place not in kept:
                self.assertFalse(go_together(team, [pairs[other] for other in sorted(kept + [place])]))
                self.check_not_in_the_place_of_a_later_one(team, pairs, kept, place)

    def check_not_in_the_place_of_a_later_one(self, team, pairs, kept, place):
        # With it and those kept ahead of it there is no list of as many.
        ahead = [pairs[other] for other in kept if other < place] + [pairs[place]]
        if go_together(team, ahead):
            behind = [pair for pair in pairs[place + 1:] if all(go_together(team, [pair, told]) for told in ahead)]
            self.assertLess(len(ahead) + most_by_hand(team, behind), len(kept))

    def test_twenty_pairs_that_go_together(self):
        pairs = [(worker, level - 1) for worker, level in enumerate(STAIRS)][::-1]
        self.assertEqual([row(STAIRS, pairs) for row in OF_PAIRS], [[], 0, list(range(20))])
        pairs = [(worker, 59) for worker in range(20)]
        self.assertEqual([row(STAIRS, pairs) for row in OF_PAIRS], [list(range(20)), 20, []])
        pairs = [(worker, 0) for worker in range(20)]
        self.assertEqual([row(STAIRS, pairs) for row in OF_PAIRS], [[], 19, [0]])
        pairs = [(7, job) for job in range(20)]
        self.assertEqual([row(STAIRS, pairs) for row in OF_PAIRS], [[], 19, [0]])

    def test_jobs_handed_on(self):
        # Worker 0 has to take job 1 so that worker 1 can have job 0, and so on up to the last one.
        pairs = [(worker, job) for worker in range(10) for job in (worker, worker + 1)]
        self.assertEqual(kept_pairs([40] * 20, pairs), list(range(0, 20, 2)))
        pairs = [(9, 0)] + [(worker, job) for worker in range(9) for job in (worker, worker + 1)]
        self.assertEqual(fewest_out([40] * 20, pairs), 9)
        self.assertEqual(kept_pairs([40] * 20, pairs), [0] + list(range(2, 19, 2)))

    def test_the_bent_level_is_told(self):
        for team in GREAT_TEAMS:
            told = counts(team)
            for worker in range(0, len(team), 4):
                for level in (0, team[worker] + 1, team[worker] + 3, max(0, team[worker] - 1), 20):
                    bent = with_level(team, worker, level)
                    if is_team(bent):
                        self.check_bent(bent, told, (worker, team[worker]))

    def check_bent(self, bent, told, right):
        found = one_level(bent, told)
        self.assertIn(right, found)
        self.assertEqual(found, sorted(set(found)))
        for worker, level in found:
            self.assertEqual(counts(with_level(bent, worker, level)), told)
        # No other level of a worker has these counts: they tell what the levels come to.
        for worker in range(0, len(bent), 5):
            for level in range(0, 60, 7):
                other = with_level(bent, worker, level)
                if is_team(other) and (worker, level) not in found:
                    self.assertNotEqual(counts(other), told)


class RulesTest(unittest.TestCase):
    def test_lists_are_new_and_arguments_stay(self):
        team, told, pairs = list(TWINS), counts(TWINS), [(0, 0), (3, 0), (3, 1), (19, 18), (0, 5)]
        for row, last in ((one_level, told), (wrong_pairs, pairs), (kept_pairs, pairs)):
            first, second = row(team, last), row(team, last)
            self.assertEqual(first, second)
            first.append(99)
            self.assertEqual(row(team, last), second)
        self.assertEqual(one_level(counts=told, team=team), one_level(team, told))
        for row in OF_PAIRS:
            self.assertEqual(row(pairs=pairs, team=team), row(team, pairs))
        self.assertEqual((team, told), (TWINS, counts(TWINS)))
        self.assertEqual(pairs, [(0, 0), (3, 0), (3, 1), (19, 18), (0, 5)])


class ErrorsTest(unittest.TestCase):
    """Promise 54."""

    def check(self, error, row, *arguments):
        with self.assertRaises(error, msg=(row.__name__, arguments)):
            row(*arguments)

    def test_no_teams(self):
        for team in no_teams():
            self.check(InvalidTeam, one_level, team, [1, 0])
            for row in OF_PAIRS:
                self.check(InvalidTeam, row, team, [])

    def test_no_counts(self):
        for told in no_counts():
            self.check(InvalidCounts, one_level, EXAMPLE, told)
        self.check(InvalidCounts, one_level, [0] * 20, [1] + [0] * 21)

    def test_no_pairs(self):
        for pairs in no_pairs():
            for row in OF_PAIRS:
                self.check(InvalidPairs, row, EXAMPLE, pairs)
        for row in OF_PAIRS:
            self.check(InvalidPairs, row, MIXED, [(20, 0)])
            self.check(InvalidPairs, row, MIXED, [(19, 60)])

    def test_first_wrong_argument_decides(self):
        self.check(InvalidTeam, one_level, [], [1])
        self.check(InvalidTeam, one_level, None, None)
        for row in OF_PAIRS:
            self.check(InvalidTeam, row, [41], [(0, 60)])
            self.check(InvalidTeam, row, True, True)

    def test_nothing_is_wrong_at_the_bounds(self):
        pairs = [(19, 59), (0, 0)]
        self.assertEqual([row(MIXED, pairs) for row in OF_PAIRS], [[0], 1, [1]])
        twenty = [(0, job) for job in range(40, 60)]
        self.assertEqual([row([0], twenty) for row in OF_PAIRS], [list(range(20)), 20, []])
        self.assertEqual(one_level([0] * 20, [0] * 21), [])
        self.assertEqual(one_level([0], [1, 0]), [(0, 0)])
        self.assertEqual(one_level([0], [10 ** 31 - 1, 10 ** 31 - 1]), [])
        self.assertEqual(one_level([0] * 20, [1] + [10 ** 31 - 1] * 20), [])


if __name__ == "__main__":
    unittest.main()
