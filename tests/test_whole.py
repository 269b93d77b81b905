"""Promises 61 to 63: what benches, sessions and slips say with the other parts of the package."""

import unittest
from fractions import Fraction
from random import Random

from nestboards.alike import are_alike, count_alike, strict_team
from nestboards.counting import counts, greatest_size
from nestboards.known import can_hold, count_with, next_share, nth_with, share_with
from nestboards.live import Bench
from nestboards.session import session
from nestboards.skips import nth_by_skips, skip_counts, skips_index, skips_of
from nestboards.slips import fewest_out, kept_pairs, one_level, wrong_pairs
from nestboards.teams import is_team
from nestboards.texts import read_pairs, read_team, read_way, write_pairs, write_team, write_way
from nestboards.ways import nth_way, way_index
from tests.helper import (
    EXAMPLE, MIXED, TWINS, all_ways, drawn_pairs, pairs_of, small_teams, some_indices, teams_to_four,
)

# Teams that fit on a bench, without a level above 40.
BENCH_TEAMS = [MIXED[:17] + [40, 8, 3], TWINS, [40] * 20, [20] * 20, [1] * 20, [0] * 20, [3] * 10 + [12] * 10]
BENCH_TEAMS += [list(range(20)), [7, 7, 0, 19, 33, 33, 2, 2, 2, 11, 40, 4]]


def bench_of(team, way=()):
    bench = Bench()
    for level in team:
        bench.hire(level)
    for worker, job in pairs_of(way):
        bench.give(worker, job)
    return bench


def lines_of(team, way=()):
    """The lines of a session that come to such a bench."""
    return [f"hire {level}" for level in team] + [f"give {worker} {job}" for worker, job in pairs_of(way)]


def asked(team, way, *lines):
    """The answers to these lines behind those that come to the bench."""
    start = lines_of(team, way)
    return session("\n".join([*start, *lines])).split("\n")[len(start):]


def great_ways(team):
    """Ways of some sizes of a great team, also with workers who stay idle."""
    greatest = greatest_size(team)
    for many in sorted({0, 1, greatest // 2, greatest - 1, greatest} & set(range(greatest + 1))):
        for index in some_indices(counts(team)[many])[1::3]:
            yield many, nth_way(team, many, index)


class BenchTest(unittest.TestCase):
    """Promise 61."""

    def test_rest_counts_of_small_benches(self):
        for team in teams_to_four(3)[::2] + small_teams():
            for way in all_ways(team)[::7]:
                self.check_rest(team, way)

    def test_rest_counts_of_great_benches(self):
        for team in BENCH_TEAMS:
            for _, way in great_ways(team):
                self.check_rest(team, way)

    def check_rest(self, team, way):
        bench, pairs = bench_of(team, way), pairs_of(way)
        rest = bench.rest_counts()
        self.assertEqual(len(rest), len(team) - len(pairs) + 1)
        for more, ways in enumerate(rest):
            self.assertEqual(ways, count_with(team, pairs, len(pairs) + more), (team, way, more))

    def test_shares_of_the_pairs_that_are_given(self):
        for team in small_teams()[::2] + BENCH_TEAMS:
            for many, way in great_ways(team):
                bench = bench_of(team)
                told = []
                for worker, job in pairs_of(way):
                    ahead = bench.rest_counts()[many - len(told)]
                    share = next_share(team, told, many, worker, job)
                    bench.give(worker, job)
                    told.append((worker, job))
                    self.assertEqual(Fraction(*share), Fraction(bench.rest_counts()[many - len(told)], ahead))
                self.assertEqual(bench.way, way)

    def test_given_back_and_given_again(self):
        for team in BENCH_TEAMS + [EXAMPLE, [5, 2, 2, 5]]:
            for _, way in great_ways(team):
                bench = bench_of(team, way)
                rest, held = bench.rest_counts(), len(bench)
                for worker, job in pairs_of(way)[::3]:
                    bench.take_back(worker)
                    self.assertEqual(len(bench.rest_counts()), len(rest) + 1)
                    bench.give(worker, job)
                    self.assertEqual((bench.team, bench.way, bench.rest_counts()), (team, way, rest))
                bench.undo_to(held)
                self.assertEqual((bench.team, bench.way, bench.rest_counts()), (team, way, rest))

    def test_a_way_put_on_a_bench(self):
        for team in small_teams()[::3] + BENCH_TEAMS:
            bench = bench_of(team)
            for many, total in enumerate(counts(team)):
                for index in some_indices(total)[::2]:
                    bench.undo_to(len(team))
                    for worker, job in pairs_of(nth_way(team, many, index))[::-1]:
                        bench.give(worker, job)
                    self.assertEqual(way_index(bench.team, bench.way), index)
                    self.assertEqual(nth_way(bench.team, many, index), bench.way)
                    self.assertEqual(nth_with(bench.team, pairs_of(bench.way), many, 0), bench.way)

    def test_a_lesson_on_the_bench(self):
        for team in ([2, 1, 2], [0, 3, 1], TWINS):
            bench = bench_of(team, nth_way(team, 1, 0))
            for worker in range(0, len(team), 3):
                bench.learn(worker)
                self.assertEqual(counts(bench.team), bench_of(bench.team).rest_counts())
                self.check_rest(bench.team, bench.way)


class SessionTest(unittest.TestCase):
    """Promise 62."""

    def test_answers_read_back(self):
        for team in small_teams()[::3] + BENCH_TEAMS:
            for many, way in list(great_ways(team))[::2]:
                index = way_index(team, way)
                lines = ["team", "way", "counts", "size", "alike", "strict", "skips", f"list {many} {index}", "rest"]
                told = asked(team, way, *lines)
                self.assertEqual(read_team(told[0]), team)
                self.assertEqual(read_way(told[1]), way)
                self.assertEqual([int(word) for word in told[2].split(" ")], counts(team))
                self.assertEqual((int(told[3]), int(told[4])), (greatest_size(team), count_alike(team)))
                self.assertEqual(read_team(told[5]), strict_team(team))
                self.assertTrue(are_alike(team, read_team(told[5])))
                self.assertEqual(int(told[6]), skips_of(team, way))
                self.assertEqual(nth_by_skips(team, many, int(told[6]), skips_index(team, read_way(told[1]))), way)
                self.assertGreater(skip_counts(team, many)[int(told[6])], 0)
                self.assertEqual(told[7], told[1])
                self.assertEqual([int(word) for word in told[8].split(" ")], bench_of(team, way).rest_counts())

    def test_shares_read_back(self):
        for team in small_teams()[::4] + BENCH_TEAMS:
            for many, way in great_ways(team):
                pairs = pairs_of(way)
                found = Fraction(1)
                for told, (worker, job) in enumerate(pairs[:4]):
                    part = [None] * len(team)
                    for other, own in pairs[:told]:
                        part[other] = own
                    share = asked(team, part, f"share {many} {worker} {job}")[0]
                    self.assertEqual(share, "{}/{}".format(*next_share(team, pairs[:told], many, worker, job)))
                    found *= Fraction(share)
                self.assertEqual(found, Fraction(*share_with(team, pairs[:4], many)))

    def test_undone_and_told_again(self):
        lines = ["team", "way", "counts", "rest", "skips", "share 3 0 0", "list 2 1", "strict", "alike", "size"]
        for team in [[2, 1, 2], [5, 2, 2, 5], TWINS[:8], MIXED[:17]]:
            way = nth_way(team, 2, 1)
            first = asked(team, way, *lines)
            calls = ["learn 0", "hire 4", "give 2 0", "take 0", "learn 1", "take 2"]
            start = len(lines_of(team, way))
            told = asked(team, way, *calls, f"back {start}", *lines, "undo", lines_of(team, way)[-1], *lines)
            self.assertEqual(told[len(calls)], "ok")
            self.assertEqual(told[len(calls) + 1:][:len(lines)], first)
            self.assertEqual(told[-len(lines) - 2:], ["ok", "ok"] + first)
            again = asked(team, way, "new", *lines_of(team, way), *lines)
            self.assertEqual(again[1 + start:], first)

    def test_texts_of_what_functions_tell(self):
        for team in BENCH_TEAMS:
            for _, way in great_ways(team):
                pairs = pairs_of(way)
                self.assertEqual(read_pairs(write_pairs(pairs)), pairs)
                self.assertEqual(read_way(write_way(way)), way)
                self.assertTrue(can_hold(read_team(write_team(team)), read_pairs(write_pairs(pairs))))


def drawn_rows(team, seed):
    """Up to twenty unlike pairs, many of which share a worker or a job."""
    drawn = Random(seed)
    pool = [(worker, job) for worker in range(len(team)) for job in range(min(max(team), 12) + 1)]
    return drawn.sample(pool, min(len(pool), 20))


class SlipsTest(unittest.TestCase):
    """Promise 63."""

    def test_what_is_kept_goes_together(self):
        for team in small_teams():
            for pairs in drawn_pairs(team, 3, 9):
                self.check_kept(team, pairs)
        for team in BENCH_TEAMS:
            for seed in range(4):
                self.check_kept(team, drawn_rows(team, seed))

    def check_kept(self, team, pairs):
        kept = kept_pairs(team, pairs)
        held = [pairs[place] for place in kept]
        self.assertIs(can_hold(team, held), True)
        self.assertEqual(fewest_out(team, pairs), len(pairs) - len(kept))
        out = [pair for place, pair in enumerate(pairs) if place not in kept]
        for pair in out:
            self.assertIs(can_hold(team, held + [pair]), False)
        self.assertIs(can_hold(team, pairs), not out)
        for place in wrong_pairs(team, pairs):
            self.assertNotIn(place, kept)
            self.assertIs(can_hold(team, [pairs[place]]), False)
        self.assertEqual(kept_pairs(team, held), list(range(len(held))))
        self.assertEqual(fewest_out(team, held), 0)
        self.assertEqual(wrong_pairs(team, held), [])

    def test_pairs_of_one_way_are_all_kept(self):
        for team in small_teams() + BENCH_TEAMS:
            for _, way in great_ways(team):
                pairs = pairs_of(way)[::-1]
                self.assertEqual(kept_pairs(team, pairs), list(range(len(pairs))))
                self.assertEqual((wrong_pairs(team, pairs), fewest_out(team, pairs)), ([], 0))

    def test_the_counts_of_a_team_find_each_of_its_levels(self):
        for team in teams_to_four(4) + BENCH_TEAMS:
            found = one_level(team, counts(team))
            for pair in enumerate(team):
                self.assertIn(pair, found)

    def test_a_level_put_right_leads_to_an_alike_team(self):
        for team in teams_to_four(3) + BENCH_TEAMS:
            for worker in range(0, len(team), max(1, len(team) // 4)):
                for level in (team[worker] + 1, team[worker] + 2, 0):
                    bent = team[:worker] + [level] + team[worker + 1:]
                    if is_team(bent):
                        found = one_level(bent, counts(team))
                        self.assertIn((worker, team[worker]), found)
                        for other, right in found:
                            self.assertIs(are_alike(bent[:other] + [right] + bent[other + 1:], team), True)


if __name__ == "__main__":
    unittest.main()
