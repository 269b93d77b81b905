"""Promises 22 to 27 and 32: what the parts of the package say of one another."""

import unittest
from fractions import Fraction
from itertools import permutations

from nestboards.alike import (
    alike_index, are_alike, count_alike, nth_alike, parting, strict_team, unlike_count,
)
from nestboards.back import is_counts, reason_against, shows_reason, spare_from, team_from
from nestboards.counting import counts, greatest_size, likeliest, limit_of, mean_size, shows_limit
from nestboards.hits import hit_counts, hits_of, list_index, mean_hits, nth_list, pair_by_hits
from nestboards.skips import (
    greatest_skips, least_skips, mean_skips, nth_by_skips, skip_counts, skips_by_worker, skips_index, skips_of,
)
from nestboards.teams import able_counts, can_do, is_team, line, others, spare_numbers
from nestboards.ways import is_way, next_way, nth_way, way_index
from tests.helper import (
    EXAMPLE, GREAT_TEAMS, HIT_TEAMS, all_ways, as_tuple, ascending_to_four, full_lists, size_of, some_indices,
    teams_to_four,
)

ANY_TEAMS = teams_to_four(3) + [[5, 2, 2, 5], [4, 4, 0, 1, 3], [6, 1, 2, 4, 4, 1]] + GREAT_TEAMS


def turned(team, by):
    """The team in another sequence, with the worker of the old one at each place."""
    workers = list(range(len(team)))[::-1]
    workers = workers[by:] + workers[:by]
    return [team[worker] for worker in workers], workers


def skip_rows(team):
    return [skip_counts(team, many) for many in range(len(team) + 1)]


def told_of(team):
    """What is told of a team without a word about who it is."""
    total = count_alike(team)
    lists = [nth_alike(team, index) for index in some_indices(total)]
    sizes = [counts(team), greatest_size(team), limit_of(team), likeliest(team), mean_size(team)]
    return sizes + [spare_numbers(team), able_counts(team), skip_rows(team), total, lists, strict_team(team)]


class SequenceTest(unittest.TestCase):
    """Promise 22."""

    def test_what_is_told_of_the_team(self):
        for team in ANY_TEAMS:
            for by in (0, 1, len(team) // 2):
                other, _ = turned(team, by)
                self.assertEqual(told_of(other), told_of(team), team)
                self.assertIs(are_alike(team, other), True)
                self.assertEqual((parting(team, other), unlike_count(team, other)), (None, None))
                self.assertEqual(parting(other, EXAMPLE), parting(team, EXAMPLE))
                self.assertEqual(unlike_count(other, EXAMPLE), unlike_count(team, EXAMPLE))

    def test_all_sequences_of_small_teams(self):
        for team in ascending_to_four(4):
            told = told_of(team)
            for other in permutations(team):
                self.assertEqual(told_of(list(other)), told)

    def test_ways_along_the_line(self):
        for team in ANY_TEAMS:
            other, _ = turned(team, len(team) // 3)
            for many, total in enumerate(counts(team)):
                for index in some_indices(total):
                    self.check_ways(team, other, many, index)

    def check_ways(self, team, other, many, index):
        first, second = nth_way(team, many, index), nth_way(other, many, index)
        rows = [(first[a], second[b]) for a, b in zip(line(team), line(other))]
        self.assertTrue(all(a == b for a, b in rows), (team, many, index))
        skipped, again = skips_by_worker(team, first), skips_by_worker(other, second)
        rows = [(skipped[a], again[b]) for a, b in zip(line(team), line(other))]
        self.assertTrue(all(a == b for a, b in rows), (team, many, index))
        self.assertEqual(skips_of(team, first), skips_of(other, second))
        if len(team) < 20:
            self.assertEqual(skips_index(team, first), skips_index(other, second))

    def test_ways_of_workers_with_unlike_levels(self):
        for team in ([0, 1, 3], [4, 2, 1], [5, 3, 0, 2]):
            for by in range(len(team)):
                other, workers = turned(team, by)
                for way in all_ways(team):
                    moved = [way[worker] for worker in workers]
                    self.assertEqual(skips_of(other, moved), skips_of(team, way))
                    self.assertEqual(way_index(other, moved), way_index(team, way))
                    skipped = skips_by_worker(team, way)
                    self.assertEqual(skips_by_worker(other, moved), [skipped[worker] for worker in workers])
                    self.assertEqual(skips_index(other, moved), skips_index(team, way))


class MoreWorkersTest(unittest.TestCase):
    """Promise 23."""

    def test_a_worker_of_level_0(self):
        for team in [team for team in ANY_TEAMS if len(team) < 20]:
            for place in (0, len(team)):
                other = team[:place] + [0] + team[place:]
                self.assertEqual(counts(other), counts(team) + [0])
                self.assertEqual(likeliest(other), likeliest(team))
                self.assertEqual(greatest_size(other), greatest_size(team))
                self.assertEqual(mean_size(other), mean_size(team))
                self.assertEqual(able_counts(other), able_counts(team))
                self.assertEqual(skip_rows(other), skip_rows(team) + [[]])
                self.assertEqual(sorted(spare_numbers(other)), sorted([0] + [s - 1 for s in spare_numbers(team)]))
                self.assertIs(unlike_count(team, other), None)
                self.assertIs(are_alike(team, other), False)
                self.check_lists(team, other)
                self.check_ways(team, other, place)

    def check_lists(self, team, other):
        self.assertGreaterEqual(count_alike(other), count_alike(team))
        for index in some_indices(count_alike(team)):
            levels = [0] + nth_alike(team, index)
            self.assertEqual(nth_alike(other, alike_index(other, levels)), levels)
            self.assertEqual(strict_team(levels), strict_team(other))

    def check_ways(self, team, other, place):
        self.assertIs(can_do(other, place, 0), False)
        for many, total in enumerate(counts(team)):
            for index in some_indices(total):
                way = nth_way(team, many, index)
                wider = way[:place] + [None] + way[place:]
                self.assertEqual(nth_way(other, many, index), wider)
                self.assertEqual(way_index(other, wider), index)
                skipped = skips_by_worker(team, way)
                self.assertEqual(skips_by_worker(other, wider), skipped[:place] + [0] + skipped[place:])
                self.assertEqual(skips_index(other, wider), skips_index(team, way))

    def test_one_more_job_that_all_can_do(self):
        for team in ANY_TEAMS:
            raised = [level + 1 for level in team]
            if is_team(raised):
                n = len(team)
                found = counts(team)
                more = [found[k] + (found[k - 1] * (n - k + 1) if k else 0) for k in range(n + 1)]
                self.assertEqual(counts(raised), more)
                self.assertEqual(line(raised), line(team))
                self.assertEqual(spare_numbers(raised), [spare + 1 for spare in spare_numbers(team)])
                self.assertEqual(able_counts(raised), [n] + able_counts(team))
                self.assertEqual(greatest_size(raised), min(n, greatest_size(team) + 1))
                self.check_alike(team, raised)

    def check_alike(self, team, raised):
        for index in some_indices(count_alike(team)):
            other = [level + 1 for level in nth_alike(team, index)]
            self.assertIs(are_alike(raised, other), True)
            self.assertEqual(nth_alike(raised, alike_index(raised, other)), other)
        self.assertGreaterEqual(count_alike(raised), count_alike(team))
        self.assertEqual(parting(team, raised), min(spare_numbers(team)))

    def test_a_worker_who_can_do_more_than_all_others(self):
        for team in [team for team in ANY_TEAMS if len(team) < 20]:
            level = max(team) + 1
            if is_team(team + [level]):
                for place in (0, len(team)):
                    self.check_best(team, level, team[:place] + [level] + team[place:], place)

    def check_best(self, team, level, other, place):
        self.assertEqual(line(other)[-1], place)
        self.assertEqual(spare_numbers(other), spare_numbers(team) + [level - len(team)])
        found = counts(team) + [0]
        more = [found[k] + (found[k - 1] * (level - k + 1) if k else 0) for k in range(len(found))]
        self.assertEqual(counts(other), more)
        rows = skip_rows(team) + [[]]
        for many, row in enumerate(skip_rows(other)):
            idle = [0] * (level - many) + rows[many] if rows[many] else []
            length = max(len(idle), len(rows[many - 1]) + level - many if many and rows[many - 1] else 0)
            whole = idle + [0] * (length - len(idle))
            if many:
                for skips, ways in enumerate(rows[many - 1]):
                    for step in range(level - many + 1):
                        whole[skips + step] += ways
            self.assertEqual(row, whole, (team, level, many))


class AlikeTest(unittest.TestCase):
    """Promise 24."""

    def test_alike_teams_have_all_this_in_common(self):
        for team in teams_to_four(4) + GREAT_TEAMS:
            kept = self.common(team)
            for index in some_indices(count_alike(team)):
                other = nth_alike(team, index)
                self.assertEqual(self.common(other), kept, (team, other))

    def common(self, team):
        sizes = [counts(team), greatest_size(team), likeliest(team), mean_size(team), skip_rows(team)]
        lists = [nth_alike(team, index) for index in some_indices(count_alike(team))]
        return sizes + [sorted(spare_numbers(team)), count_alike(team), lists, strict_team(team)]

    def test_least_greatest_and_mean_skips(self):
        for team in teams_to_four(3) + GREAT_TEAMS[-2:]:
            other = strict_team(team)
            for many in range(0, greatest_size(team) + 1, 2):
                for row in (least_skips, greatest_skips, mean_skips):
                    self.assertEqual(row(team, many), row(other, many))

    def test_of_all_pairs_of_small_teams(self):
        teams = ascending_to_four(3)
        for team in teams:
            for other in teams:
                same = are_alike(team, other)
                self.assertIs(same, strict_team(team) == strict_team(other))
                self.assertIs(same, parting(team, other) is None)
                self.assertIs(same, len(team) == len(other) and unlike_count(team, other) is None)
                self.assertIs(same, len(team) == len(other) and skip_rows(team) == skip_rows(other))


class ChainTest(unittest.TestCase):
    """Promise 25."""

    def test_from_the_first_way_to_the_last(self):
        for team in teams_to_four(3) + [[4, 0, 4, 2], [5, 5, 1], [2, 2, 1, 3, 2]]:
            for many, total in enumerate(counts(team)):
                if total:
                    self.check_chain(team, many, total)

    def check_chain(self, team, many, total):
        way = nth_way(team, many, 0)
        found = [0] * len(skip_counts(team, many))
        length = 0
        while way is not None:
            self.assertIs(is_way(team, way), True)
            skips = skips_of(team, way)
            self.assertEqual(skips_index(team, way), found[skips])
            self.assertEqual(nth_by_skips(team, many, skips, found[skips]), way)
            found[skips] += 1
            length += 1
            way = next_way(team, way)
        self.assertEqual(length, total)
        self.assertEqual(found, skip_counts(team, many))
        mean = Fraction(sum(skips * ways for skips, ways in enumerate(found)), total)
        self.assertEqual(mean_skips(team, many), as_tuple(mean))


class RiseAndFallTest(unittest.TestCase):
    """Promise 26."""

    def test_counts_rise_and_fall(self):
        for team in ANY_TEAMS:
            found = counts(team)
            top = likeliest(team)
            self.assertEqual(found[:top[0] + 1], sorted(set(found[:top[0] + 1])))
            behind = found[top[-1]:greatest_size(team) + 1]
            self.assertEqual(behind, sorted(set(behind), reverse=True))
            self.assertIn(top, ([top[0]], [top[0], top[0] + 1]))

    def test_sizes_with_ways(self):
        for team in ANY_TEAMS:
            greatest = greatest_size(team)
            sizes = [many for many, ways in enumerate(counts(team)) if ways]
            self.assertEqual(sizes, list(range(greatest + 1)))
            self.assertEqual([many for many, row in enumerate(skip_rows(team)) if row], sizes)
            self.assertIs(shows_limit(team, limit_of(team)), True)

    def test_a_worker_less(self):
        for team in ANY_TEAMS:
            for worker in {0, len(team) // 2, len(team) - 1}:
                rest = team[:worker] + team[worker + 1:]
                # Without one of them the spare numbers of the others may be too great.
                if is_team(rest):
                    self.check_rest(team, worker, rest)

    def check_rest(self, team, worker, rest):
        fewer = counts(rest) + [0]
        self.assertTrue(all(less <= ways for less, ways in zip(fewer, counts(team))))
        self.assertIn(greatest_size(team) - greatest_size(rest), (0, 1))
        if len(team) < 7:
            sizes = [size_of(way) for way in all_ways(team) if way[worker] is None]
            self.assertEqual([sizes.count(many) for many in range(len(team) + 1)], fewer)

    def test_a_way_of_the_greatest_size(self):
        for team in ANY_TEAMS:
            greatest = greatest_size(team)
            way = nth_way(team, greatest, counts(team)[greatest] - 1)
            self.assertIs(is_way(team, way), True)
            self.assertEqual(size_of(way), greatest)
            self.assertIs(next_way(team, way), None)


class BackTest(unittest.TestCase):
    """Promise 27."""

    def test_there_and_back(self):
        for team in ANY_TEAMS:
            found = counts(team)
            self.assertEqual(spare_from(found), sorted(spare_numbers(team)))
            self.assertEqual(team_from(found), strict_team(team))
            self.assertEqual((is_counts(found), reason_against(found)), (True, None))

    def test_bent_counts(self):
        for team in ANY_TEAMS:
            found = counts(team)
            for place in {0, 1, len(found) // 2, len(found) - 1}:
                for step in (-1, 1, 5):
                    bent = found[:place] + [found[place] + step] + found[place + 1:]
                    if bent[place] >= 0:
                        self.check_bent(team, bent)

    def check_bent(self, team, bent):
        reason = reason_against(bent)
        other = team_from(bent)
        self.assertIs(reason is None, is_counts(bent))
        if reason is None:
            self.assertEqual(counts(other), bent)
            self.assertIs(are_alike(team, other), False)
            self.assertEqual(unlike_count(team, other), [a == b for a, b in zip(bent, counts(team))].index(False))
        else:
            self.assertIs(shows_reason(bent, reason), True)
            self.assertEqual((other, spare_from(bent)), (None, None))


class HitsTest(unittest.TestCase):
    """Promise 32."""

    def small(self, greatest=4):
        return [team for team in teams_to_four(greatest) if max(team) <= len(team)]

    def test_alike_teams(self):
        for team in self.small() + HIT_TEAMS:
            for index in some_indices(count_alike(team)):
                other = nth_alike(team, index)
                if max(other) <= len(other):
                    self.assertEqual(hit_counts(other), hit_counts(team))
                    self.assertEqual(mean_hits(other), mean_hits(team))

    def test_the_others_of_n_miss_as_often(self):
        for team in self.small() + HIT_TEAMS:
            n = len(team)
            missing = others(team, n)
            self.assertEqual(hit_counts(missing), hit_counts(team)[::-1])
            for hits, total in enumerate(hit_counts(team)):
                for index in some_indices(total):
                    names = nth_list(team, hits, index)
                    from_behind = [n - 1 - job for job in names]
                    self.assertEqual(hits_of(missing, from_behind), n - hits)
                    self.assertEqual(list_index(missing, from_behind), total - 1 - index)

    def test_lists_that_hit_all_are_ways(self):
        for team in self.small():
            n = len(team)
            total = hit_counts(team)[n]
            self.assertEqual(total, counts(team)[n])
            lists = [nth_list(team, n, index) for index in range(total)]
            self.assertEqual(lists, sorted(nth_way(team, n, index) for index in range(total)))

    def test_great_lists_that_hit_all_are_ways(self):
        for team in HIT_TEAMS:
            total = hit_counts(team)[20]
            self.assertEqual(total, counts(team)[20])
            for index in some_indices(total):
                self.assertIs(is_way(team, nth_list(team, 20, index)), True)

    def test_the_hits_of_a_list_are_a_way(self):
        for team in self.small(3):
            for names in full_lists(len(team)):
                way = [job if job < level else None for job, level in zip(names, team)]
                self.assertIs(is_way(team, way), True)
                self.assertEqual(size_of(way), hits_of(team, names))

    def test_shares_come_to_1(self):
        for team in self.small(3) + HIT_TEAMS[2:6]:
            for hits, total in enumerate(hit_counts(team)):
                if total and (len(team) < 20 or hits in (9, 10, 13)):
                    self.check_shares(team, hits)

    def check_shares(self, team, hits):
        places = range(len(team))
        rows = [[Fraction(*pair_by_hits(team, worker, job, hits)) for job in places] for worker in places]
        self.assertEqual([sum(row) for row in rows], [1] * len(team))
        self.assertEqual([sum(row[job] for row in rows) for job in places], [1] * len(team))
        able = sum(rows[worker][job] for worker in places for job in places if job < team[worker])
        self.assertEqual(able, hits)

    def test_workers_in_another_sequence(self):
        for team in self.small(3) + HIT_TEAMS[3:]:
            other, workers = turned(team, 1)
            self.assertEqual((hit_counts(other), mean_hits(other)), (hit_counts(team), mean_hits(team)))
            for hits, total in enumerate(hit_counts(team)):
                for index in some_indices(total)[:2]:
                    names = nth_list(team, hits, index)
                    self.assertEqual(hits_of(other, [names[worker] for worker in workers]), hits)
                    share = pair_by_hits(team, workers[0], len(team) - 1, hits)
                    self.assertEqual(pair_by_hits(other, 0, len(team) - 1, hits), share)


if __name__ == "__main__":
    unittest.main()
