"""Promises 37 to 40: ways of which some pairs are known, and what to ask next."""

import unittest
from fractions import Fraction
from itertools import permutations

from nestboards.counting import counts, greatest_size
from nestboards.errors import (
    InvalidIndex, InvalidJob, InvalidNumber, InvalidPairs, InvalidTeam, InvalidWorker, NoWay,
)
from nestboards.known import (
    best_question, can_hold, count_with, hold_paper, next_share, nth_with, share_with, sure_pairs,
)
from nestboards.ways import is_way, nth_way, way_index
from tests.helper import (
    EXAMPLE, GREAT_TEAMS, MIXED, NO_INDICES, STAIRS, TWINS, drawn_pairs, has_all, no_pairs, no_teams, pair_pool,
    pairs_of, part, size_of, small_teams, some_indices, teams_to_four, ways_in_order,
)

OF_PAIRS = (can_hold, hold_paper)
OF_SIZES = (count_with, share_with, sure_pairs, best_question)


def paper_by_hand(team, pairs):
    """Pair after pair, each one against all of those ahead."""
    for place, (worker, job) in enumerate(pairs):
        if job not in range(team[worker]):
            return ("unable", place)
        if any(other == worker for other, _ in pairs[:place]):
            return ("worker", place)
        if any(other == job for _, other in pairs[:place]):
            return ("job", place)
    return None


def question_by_hand(found, total):
    """The pair nearest to a half of so many ways, from how many ways each pair has."""
    rows = [(abs(Fraction(ways, total) - Fraction(1, 2)), pair) for pair, ways in found.items() if 0 < ways < total]
    return min(rows)[1] if rows else None


class ExampleTest(unittest.TestCase):
    def test_papers(self):
        told = [
            ([], None), ([(0, 1)], None), ([(0, 1), (1, 0)], None), ([(1, 1)], ("unable", 0)),
            ([(0, 0), (0, 1)], ("worker", 1)), ([(0, 0), (1, 0)], ("job", 1)), ([(0, 0), (0, 2)], ("unable", 1)),
            ([(2, 0), (0, 1), (2, 1)], ("worker", 2)), ([(2, 0), (0, 1), (1, 1)], ("unable", 2)),
            ([(2, 0), (0, 0), (0, 1)], ("job", 1)), ([(2, 59)], ("unable", 0)),
        ]
        for pairs, paper in told:
            self.assertEqual(hold_paper(EXAMPLE, pairs), paper, pairs)
            self.assertIs(can_hold(EXAMPLE, pairs), paper is None, pairs)

    def test_size_2(self):
        self.assertEqual([count_with(EXAMPLE, [(0, 1)], many) for many in range(4)], [0, 1, 2, 0])
        self.assertEqual([nth_with(EXAMPLE, [(0, 1)], 2, index) for index in (0, 1)], [[1, 0, None], [1, None, 0]])
        self.assertEqual(share_with(EXAMPLE, [(0, 1)], 2), (1, 2))
        self.assertEqual(next_share(EXAMPLE, [(0, 1)], 2, 1, 0), (1, 2))
        self.assertEqual(next_share(EXAMPLE, [(0, 1)], 2, 0, 1), (1, 1))
        self.assertEqual(next_share(EXAMPLE, [(0, 1)], 2, 0, 0), (0, 1))
        self.assertEqual(sure_pairs(EXAMPLE, [(0, 1)], 2), [(0, 1)])
        self.assertEqual(best_question(EXAMPLE, [(0, 1)], 2), (1, 0))
        self.assertEqual(sure_pairs(EXAMPLE, [(1, 0), (0, 1)], 2), [(0, 1), (1, 0)])
        self.assertIs(best_question(EXAMPLE, [(0, 1), (1, 0)], 2), None)

    def test_pairs_that_cannot_be(self):
        for pairs in ([(1, 1)], [(0, 0), (0, 1)], [(0, 0), (2, 0)]):
            self.assertEqual([count_with(EXAMPLE, pairs, many) for many in range(4)], [0] * 4)
            self.assertEqual(share_with(EXAMPLE, pairs, 2), (0, 1))

    def test_sure_without_being_told(self):
        self.assertEqual(sure_pairs([1, 2], [], 2), [(0, 0), (1, 1)])
        self.assertEqual(sure_pairs([1, 2, 3], [], 3), [(0, 0), (1, 1), (2, 2)])
        self.assertEqual(sure_pairs([2, 2], [(1, 0)], 2), [(0, 1), (1, 0)])
        self.assertEqual(sure_pairs([2, 2], [], 0), [])


class SmallTeamsTest(unittest.TestCase):
    """Promises 37 and 38: against all ways of teams of up to four workers."""

    def test_papers_of_all_lists_of_up_to_three_pairs(self):
        for team in [[1, 2], [0, 3], [2, 1, 2], [0, 1]]:
            for many in range(4):
                for pairs in permutations(pair_pool(team), many):
                    paper = paper_by_hand(team, pairs)
                    self.assertEqual(hold_paper(team, list(pairs)), paper, (team, pairs))
                    holds = any(has_all(way, pairs) for way in ways_in_order(team))
                    self.assertIs(can_hold(team, list(pairs)), holds, (team, pairs))

    def test_no_pairs_and_each_single_one(self):
        for team in small_teams():
            for pairs in [[]] + [[pair] for pair in pair_pool(team)]:
                self.check_pairs(team, pairs)

    def test_pairs_in_any_sequence(self):
        for team in teams_to_four():
            for pairs in drawn_pairs(team, 4, 3):
                self.check_pairs(team, pairs)

    def test_the_sequence_does_not_matter(self):
        for team in ([3, 1, 3, 2], [4, 4, 0, 1], [2, 0, 3, 1, 2]):
            for pairs in drawn_pairs(team, 30, 3):
                for many in range(len(team) + 1):
                    told = [row(team, pairs, many) for row in OF_SIZES if count_with(team, pairs, many)]
                    for other in permutations(pairs):
                        again = [row(team, list(other), many) for row in OF_SIZES if count_with(team, pairs, many)]
                        self.assertEqual(again, told)
                    for index in range(count_with(team, pairs, many)):
                        self.assertEqual(nth_with(team, pairs[::-1], many, index), nth_with(team, pairs, many, index))

    def check_pairs(self, team, pairs):
        ways = ways_in_order(team)
        self.assertEqual(hold_paper(team, pairs), paper_by_hand(team, pairs), (team, pairs))
        self.assertIs(can_hold(team, pairs), any(has_all(way, pairs) for way in ways), (team, pairs))
        for many in range(len(team) + 1):
            here = [way for way in ways if size_of(way) == many]
            found = [way for way in here if has_all(way, pairs)]
            self.assertEqual(count_with(team, pairs, many), len(found), (team, pairs, many))
            if here:
                self.assertEqual(share_with(team, pairs, many), part(len(found), len(here)), (team, pairs, many))
            else:
                self.check_no_way(share_with, team, pairs, many)
            if found:
                self.check_ways(team, pairs, many, found)
            else:
                for row in (sure_pairs, best_question):
                    self.check_no_way(row, team, pairs, many)
                self.check_no_way(next_share, team, pairs, many, 0, 0)
            with self.assertRaises(InvalidIndex):
                nth_with(team, pairs, many, len(found))

    def check_no_way(self, row, *arguments):
        with self.assertRaises(NoWay, msg=arguments):
            row(*arguments)

    def check_ways(self, team, pairs, many, found):
        self.assertEqual([nth_with(team, pairs, many, index) for index in range(len(found))], found, (team, pairs))
        by_pair = {pair: sum(has_all(way, [pair]) for way in found) for pair in pair_pool(team)}
        for (worker, job), ways in by_pair.items():
            share = next_share(team, pairs, many, worker, job)
            self.assertEqual(share, part(ways, len(found)), (team, pairs, many, worker, job))
        sure = [pair for pair, ways in by_pair.items() if ways == len(found)]
        self.assertEqual(sure_pairs(team, pairs, many), sure, (team, pairs, many))
        question = question_by_hand(by_pair, len(found))
        self.assertEqual(best_question(team, pairs, many), question, (team, pairs, many))


class GreatTeamsTest(unittest.TestCase):
    """Promises 38 and 39: up to twenty workers, and up to nineteen pairs of a way."""

    def test_without_pairs_it_is_nth_way(self):
        for team in GREAT_TEAMS:
            for many, total in enumerate(counts(team)):
                self.assertEqual(count_with(team, [], many), total)
                for index in some_indices(total):
                    self.assertEqual(nth_with(team, [], many, index), nth_way(team, many, index))

    def test_pairs_of_a_way(self):
        for team in GREAT_TEAMS:
            greatest = greatest_size(team)
            for many in sorted({1, greatest // 2, greatest} & set(range(1, greatest + 1))):
                way = nth_way(team, many, counts(team)[many] * 2 // 3)
                pairs = pairs_of(way)[::-1]
                for told in sorted({0, 1, len(pairs) // 2, len(pairs) - 1, len(pairs)}):
                    self.check_ways(team, pairs[:told], many, way)

    def check_ways(self, team, pairs, many, way):
        total = count_with(team, pairs, many)
        self.assertGreater(total, 0)
        self.assertEqual(share_with(team, pairs, many), part(total, counts(team)[many]))
        ahead = -1
        for index in some_indices(total):
            found = nth_with(team, pairs, many, index)
            self.assertIs(is_way(team, found), True)
            self.assertEqual(size_of(found), many)
            self.assertTrue(has_all(found, pairs))
            self.assertGreater(way_index(team, found), ahead)
            ahead = way_index(team, found)
        places = [way_index(team, nth_with(team, pairs, many, index)) for index in (0, total - 1)]
        self.assertTrue(places[0] <= way_index(team, way) <= places[1])
        with self.assertRaises(InvalidIndex):
            nth_with(team, pairs, many, total)

    def test_all_ways_with_nearly_all_pairs(self):
        # Of a way of which all pairs but one are told, the ways that are left can be made by hand.
        for team in GREAT_TEAMS:
            many = greatest_size(team)
            if many > 0:
                way = nth_way(team, many, counts(team)[many] // 2)
                for worker in [worker for worker, job in enumerate(way) if job is not None][::4]:
                    self.check_last_pair(team, way, many, worker)

    def check_last_pair(self, team, way, many, out):
        pairs = [pair for pair in pairs_of(way) if pair[0] != out]
        taken = [job for _, job in pairs]
        found = []
        for worker, level in enumerate(team):
            if worker == out or way[worker] is None:
                for job in [job for job in range(level) if job not in taken]:
                    found.append([*way])
                    found[-1][out] = None
                    found[-1][worker] = job
        found = sorted(found, key=lambda row: way_index(team, row))
        total = len(found)
        self.assertEqual([nth_with(team, pairs, many, index) for index in range(total)], found)
        self.assertEqual(count_with(team, pairs, many), total)
        by_pair = {}
        for row in found:
            for pair in pairs_of(row):
                by_pair[pair] = by_pair.get(pair, 0) + 1
        self.assertEqual(sure_pairs(team, pairs, many), sorted(pair for pair in by_pair if by_pair[pair] == total))
        self.assertEqual(best_question(team, pairs, many), question_by_hand(by_pair, total))
        for (worker, job), ways in by_pair.items():
            self.assertEqual(next_share(team, pairs, many, worker, job), part(ways, total))

    def test_pairs_told_already_and_others_of_their_workers_and_jobs(self):
        for team in (STAIRS, MIXED, TWINS, [40] * 20, [20] * 20):
            many = greatest_size(team)
            pairs = pairs_of(nth_way(team, many, counts(team)[many] // 5))[:19]
            for worker, job in pairs[::3]:
                self.assertEqual(next_share(team, pairs, many, worker, job), (1, 1))
                self.assertIn((worker, job), sure_pairs(team, pairs, many))
                self.assertEqual(next_share(team, pairs, many, worker, job + 1), (0, 1))
                self.assertEqual(next_share(team, pairs, many, (worker + 1) % 20, job), (0, 1))

    def test_twenty_pairs(self):
        pairs = [(worker, level - 1) for worker, level in enumerate(STAIRS)]
        self.assertIs(can_hold(STAIRS, pairs), True)
        self.assertEqual([count_with(STAIRS, pairs, many) for many in (0, 19, 20)], [0, 0, 1])
        self.assertEqual(nth_with(STAIRS, pairs[::-1], 20, 0), [level - 1 for level in STAIRS])
        self.assertEqual(share_with(STAIRS, pairs, 20), (1, 40 ** 20))
        self.assertEqual(sure_pairs(STAIRS, pairs[::-1], 20), pairs)
        self.assertIs(best_question(STAIRS, pairs, 20), None)
        self.assertEqual(next_share(STAIRS, pairs, 20, 3, 42), (1, 1))
        self.assertEqual(next_share(STAIRS, pairs, 20, 3, 0), (0, 1))

    def test_first_and_last_index(self):
        self.assertEqual(nth_with(STAIRS, [(19, 0)], 20, 0), list(range(1, 20)) + [0])
        last = nth_with(STAIRS, [(19, 0)], 20, count_with(STAIRS, [(19, 0)], 20) - 1)
        self.assertEqual(last, list(range(39, 58)) + [0])
        self.assertEqual(nth_with([0] * 20, [], 0, 0), [None] * 20)
        self.assertEqual(nth_with([5, 5, 1], [(0, 4)], 1, 0), [4, None, None])
        # The workers 0 and 1 can do as many of the jobs that are left, but 1 comes first along the line.
        self.assertEqual(nth_with([3, 2, 4], [(2, 2)], 2, 0), [None, 0, 2])
        self.assertEqual(nth_with([3, 2, 4], [(2, 2)], 2, 3), [1, None, 2])


class RulesTest(unittest.TestCase):
    def test_lists_are_new_and_arguments_stay(self):
        team, pairs = list(MIXED), [(5, 7), (0, 1), (4, 24)]
        for row in (sure_pairs, nth_with):
            arguments = {"team": team, "pairs": pairs, "many": 9}
            if row is nth_with:
                arguments["index"] = 3
            first, second = row(**arguments), row(*arguments.values())
            self.assertEqual(first, second)
            self.assertIsNot(first, second)
            first.clear()
            self.assertEqual(row(**arguments), second)
        for row in OF_SIZES:
            self.assertEqual(row(many=9, pairs=pairs, team=team), row(team, pairs, 9))
        self.assertEqual(next_share(job=3, worker=9, many=9, pairs=pairs, team=team), next_share(team, pairs, 9, 9, 3))
        self.assertEqual((team, pairs), (MIXED, [(5, 7), (0, 1), (4, 24)]))


class ErrorsTest(unittest.TestCase):
    """Promise 40."""

    def check(self, error, row, *arguments):
        with self.assertRaises(error, msg=(row.__name__, arguments)):
            row(*arguments)

    def check_all(self, error, team, pairs):
        for row in OF_PAIRS:
            self.check(error, row, team, pairs)
        for row in OF_SIZES:
            self.check(error, row, team, pairs, 0)
        self.check(error, nth_with, team, pairs, 0, 0)
        self.check(error, next_share, team, pairs, 0, 0, 0)

    def test_no_teams(self):
        for team in no_teams():
            self.check_all(InvalidTeam, team, [])

    def test_no_pairs(self):
        for pairs in no_pairs():
            self.check_all(InvalidPairs, EXAMPLE, pairs)
        self.check_all(InvalidPairs, [0], [(1, 0)])
        self.check_all(InvalidPairs, STAIRS, [(worker, 0) for worker in range(20)] + [(0, 1)])

    def test_sizes_workers_jobs_and_indices_out_of_bounds(self):
        for many in (-1, 4, 10 ** 30, -(10 ** 30), True, False):
            for row in OF_SIZES:
                self.check(InvalidNumber, row, EXAMPLE, [(0, 1)], many)
            self.check(InvalidNumber, nth_with, EXAMPLE, [(0, 1)], many, 0)
            self.check(InvalidNumber, next_share, EXAMPLE, [(0, 1)], many, 0, 0)
        for number in (-1, 60, 10 ** 30, -(10 ** 30), True, False):
            self.check(InvalidWorker, next_share, EXAMPLE, [(0, 1)], 2, number, 0)
            self.check(InvalidJob, next_share, EXAMPLE, [(0, 1)], 2, 0, number)
        self.check(InvalidWorker, next_share, EXAMPLE, [(0, 1)], 2, 3, 0)
        for index in NO_INDICES + [2, 3]:
            self.check(InvalidIndex, nth_with, EXAMPLE, [(0, 1)], 2, index)

    def test_no_way(self):
        for pairs, many in (([], 3), ([(0, 1)], 0), ([(0, 1)], 3), ([(1, 1)], 1), ([(0, 0), (1, 0)], 2)):
            for row in (sure_pairs, best_question):
                self.check(NoWay, row, EXAMPLE, pairs, many)
            self.check(NoWay, next_share, EXAMPLE, pairs, many, 0, 0)
            for index in (0, -1, 1):
                self.check(InvalidIndex, nth_with, EXAMPLE, pairs, many, index)
        # A share needs a way of the size, no way with the pairs.
        self.check(NoWay, share_with, EXAMPLE, [], 3)
        self.check(NoWay, share_with, EXAMPLE, [(1, 1)], 3)
        self.assertEqual(share_with(EXAMPLE, [(1, 1)], 2), (0, 1))
        self.assertEqual(share_with(EXAMPLE, [(0, 1)], 0), (0, 1))

    def test_first_wrong_argument_decides(self):
        self.check_all(InvalidTeam, [], [(0, 60)])
        for row in OF_SIZES:
            self.check(InvalidPairs, row, EXAMPLE, [(3, 0)], 4)
            self.check(InvalidNumber, row, EXAMPLE, [(1, 1)], 4)
        self.check(InvalidPairs, next_share, EXAMPLE, [(3, 0)], 4, 3, 60)
        self.check(InvalidNumber, next_share, EXAMPLE, [(1, 1)], 4, 3, 60)
        self.check(InvalidWorker, next_share, EXAMPLE, [(1, 1)], 3, 3, 60)
        self.check(InvalidJob, next_share, EXAMPLE, [(1, 1)], 3, 2, 60)
        self.check(InvalidPairs, nth_with, EXAMPLE, [(3, 0)], 4, -1)
        self.check(InvalidNumber, nth_with, EXAMPLE, [(1, 1)], 4, -1)

    def test_nothing_is_wrong_at_the_bounds(self):
        twenty = [(0, job) for job in range(40, 60)]
        self.assertEqual(hold_paper([0], twenty), ("unable", 0))
        self.assertEqual(hold_paper([0] * 19 + [59], [(19, 58), (18, 59)]), ("unable", 1))
        self.assertEqual(count_with([40], [(0, job) for job in range(20)], 1), 0)
        self.assertEqual(next_share([0] * 19 + [59], [(19, 58)], 1, 18, 59), (0, 1))
        self.assertEqual(count_with([0], [], 0), 1)
        self.assertEqual(nth_with([1], [(0, 0)], 1, 0), [0])


if __name__ == "__main__":
    unittest.main()
