"""Promises 42 to 47 and 50: what sets, known and barred pairs and lessons say of one another."""

import unittest
from fractions import Fraction
from itertools import permutations

from nestboards.barred import barred_share, count_barred, way_barred
from nestboards.counting import counts, greatest_size
from nestboards.hits import hit_counts, hits_of, mean_hits, pair_by_hits
from nestboards.known import (
    best_question, can_hold, count_with, hold_paper, next_share, nth_with, share_with, sure_pairs,
)
from nestboards.lessons import best_lesson, fewest_lessons, lost_by, shows_lessons, taught
from nestboards.sets import (
    always_given, always_work, can_give, can_work, give_paper, job_share, shows_give_paper, shows_work_paper,
    ways_of_both, ways_of_jobs, ways_of_workers, work_paper, worker_share,
)
from nestboards.teams import able_counts, is_team
from nestboards.ways import nth_way
from tests.helper import (
    GREAT_TEAMS, HIT_TEAMS, MIXED, STAIRS, TWINS, ascending_lists, drawn_pairs, full_lists, jobs_of, pair_pool,
    pairs_of, part, small_teams, some_indices, teams_to_four, ways_in_order, workers_of,
)

MIDDLE_TEAMS = [[6, 1, 2, 4, 4, 1], [3, 3, 3, 3, 3, 3], [0, 7, 2, 5, 5], [1, 2, 3, 4, 5, 6, 7], [9, 9, 2, 2, 9, 0]]
ANY_TEAMS = small_teams() + MIDDLE_TEAMS


def sizes_of(team):
    """The sizes of which there are ways, by the counts alone."""
    return [many for many, ways in enumerate(counts(team)) if ways]


def share(row, *arguments):
    return Fraction(*row(*arguments))


def some_ways(team):
    """Ways of some sizes, also of the greatest one."""
    greatest = greatest_size(team)
    for many in sorted({0, 1, greatest // 2, greatest}):
        if many <= greatest:
            for index in some_indices(counts(team)[many])[1::3]:
                yield many, nth_way(team, many, index)


class SetsTest(unittest.TestCase):
    """Promise 42."""

    def test_all_lists_come_to_the_counts(self):
        for team in ANY_TEAMS:
            found = [0] * (len(team) + 1)
            for workers in ascending_lists(range(len(team)), len(team)):
                found[len(workers)] += ways_of_workers(team, workers)
            self.assertEqual(found, counts(team), team)
            found = [0] * (len(team) + 1)
            for jobs in ascending_lists(range(max(team)), len(team)):
                found[len(jobs)] += ways_of_jobs(team, jobs)
            self.assertEqual(found, counts(team), team)

    def test_lists_of_both_come_to_those_of_one(self):
        for team in small_teams() + MIDDLE_TEAMS[:2]:
            of_jobs = ascending_lists(range(max(team)), len(team))
            for workers in ascending_lists(range(len(team)), len(team)):
                here = [jobs for jobs in of_jobs if len(jobs) == len(workers)]
                ways = sum(ways_of_both(team, workers, jobs) for jobs in here)
                self.assertEqual(ways, ways_of_workers(team, workers))

    def test_the_greatest_list_and_its_parts(self):
        for team in ANY_TEAMS:
            able = [row for row in ascending_lists(range(len(team)), len(team)) if can_work(team, row)]
            self.assertEqual(max(map(len, able)), greatest_size(team))
            self.check_parts(able)
            able = [row for row in ascending_lists(range(max(team) + 1), len(team)) if can_give(team, row)]
            self.assertEqual(max(map(len, able)), greatest_size(team))
            self.check_parts(able)

    def check_parts(self, able):
        known = {tuple(row) for row in able}
        for row in known:
            for place in range(len(row)):
                self.assertIn(row[:place] + row[place + 1:], known)

    def test_workers_and_jobs_of_a_way(self):
        for team in GREAT_TEAMS + MIDDLE_TEAMS:
            for _, way in some_ways(team):
                workers, jobs = list(workers_of(way)), list(jobs_of(way))
                self.assertIs(can_work(team, workers), True)
                self.assertIs(can_give(team, jobs), True)
                self.assertEqual((work_paper(team, workers), give_paper(team, jobs)), (None, None))
                both = ways_of_both(team, workers, jobs)
                self.assertTrue(1 <= both <= min(ways_of_workers(team, workers), ways_of_jobs(team, jobs)))

    def test_shares_come_to_the_size(self):
        for team in ANY_TEAMS + GREAT_TEAMS:
            for many in sizes_of(team)[::max(1, len(team) // 4)]:
                self.assertEqual(sum(share(worker_share, team, many, worker) for worker in range(len(team))), many)
                self.assertEqual(sum(share(job_share, team, many, job) for job in range(max(team))), many)

    def test_a_paper_shows_and_no_way_has_more(self):
        for team in small_teams():
            ways = ways_in_order(team)
            for workers in ascending_lists(range(len(team)), len(team)):
                bound = work_paper(team, workers)
                if bound is not None:
                    self.assertIs(shows_work_paper(team, workers, bound), True)
                    low = [worker for worker in workers if team[worker] <= bound]
                    most = max(len([worker for worker in low if way[worker] is not None]) for way in ways)
                    self.assertTrue(most <= bound < len(low))
            for jobs in ascending_lists(range(max(team) + 1), 4):
                bound = give_paper(team, jobs)
                if bound is not None:
                    self.assertIs(shows_give_paper(team, jobs, bound), True)
                    high = [job for job in jobs if job >= bound]
                    most = max(len([job for job in high if job in way]) for way in ways)
                    self.assertTrue(most <= sum(level > bound for level in team) < len(high))


class KnownTest(unittest.TestCase):
    """Promise 43."""

    def test_shares_of_pairs_told_one_by_one(self):
        for team in ANY_TEAMS[::3] + GREAT_TEAMS:
            for many, way in some_ways(team):
                pairs = pairs_of(way)[::-1]
                found = Fraction(1)
                for told, (worker, job) in enumerate(pairs):
                    found *= share(next_share, team, pairs[:told], many, worker, job)
                    self.assertEqual(share(share_with, team, pairs[:told + 1], many), found)
                self.assertEqual(count_with(team, pairs, many), 1)
                self.assertEqual(nth_with(team, pairs, many, 0), way)
                self.assertEqual(sure_pairs(team, pairs, many), pairs_of(way))
                self.assertIs(best_question(team, pairs, many), None)

    def test_sure_pairs_stay_and_change_no_count(self):
        for team in teams_to_four(3) + MIDDLE_TEAMS:
            for pairs in drawn_pairs(team, 3, 2):
                for many in range(len(team) + 1):
                    total = count_with(team, pairs, many)
                    if total:
                        self.check_sure(team, pairs, many, total)

    def check_sure(self, team, pairs, many, total):
        sure = sure_pairs(team, pairs, many)
        self.assertLessEqual(set(pairs), set(sure))
        for worker, job in sure:
            self.assertEqual(next_share(team, pairs, many, worker, job), (1, 1))
        self.assertIs(can_hold(team, sure), True)
        self.assertEqual(count_with(team, sure, many), total)
        self.assertEqual(sure_pairs(team, sure, many), sure)
        more = [pair for pair in pair_pool(team) if 0 < share(next_share, team, pairs, many, *pair) < 1]
        for pair in more[:3]:
            self.assertLessEqual(set(sure), set(sure_pairs(team, pairs + [pair], many)))
        question = best_question(team, pairs, many)
        self.assertIs(question is None, not more)
        if more:
            away = [(abs(share(next_share, team, pairs, many, *pair) - Fraction(1, 2)), pair) for pair in more]
            self.assertEqual(question, min(away)[1])

    def test_shares_of_all_jobs_of_a_worker(self):
        for team in ANY_TEAMS[::2] + [MIXED, TWINS, [20] * 20, [3] * 10 + [12] * 10]:
            for many in sizes_of(team)[::max(1, len(team) // 4)]:
                for worker in range(0, len(team), max(1, len(team) // 4)):
                    found = sum(share(next_share, team, [], many, worker, job) for job in range(max(team)))
                    self.assertEqual(found, share(worker_share, team, many, worker))
                for job in range(0, max(team), max(1, max(team) // 4)):
                    found = sum(share(next_share, team, [], many, worker, job) for worker in range(len(team)))
                    self.assertEqual(found, share(job_share, team, many, job))


class BarredTest(unittest.TestCase):
    """Promise 44."""

    def test_ways_with_a_pair_and_those_that_bar_it(self):
        for team in teams_to_four(3) + MIDDLE_TEAMS:
            pairs, barred = drawn_pairs(team, 2, 2)
            for many in range(len(team) + 1):
                for pair in [pair for pair in pair_pool(team) if pair not in pairs + barred][::3]:
                    ways = count_barred(team, pairs + [pair], barred, many)
                    left = count_barred(team, pairs, barred + [pair], many)
                    self.assertEqual(ways + left, count_barred(team, pairs, barred, many))
                    if left:
                        self.assertEqual(barred_share(team, pairs, barred + [pair], many, *pair), (0, 1))

    def test_the_same_of_great_teams(self):
        for team in GREAT_TEAMS:
            for many, way in some_ways(team):
                pairs = pairs_of(way)
                for told in (0, len(pairs) // 2):
                    for pair in pairs[told:][:1]:
                        left = count_barred(team, pairs[:told], [pair], many)
                        total = count_with(team, pairs[:told], many)
                        self.assertEqual(count_with(team, pairs[:told] + [pair], many) + left, total)

    def test_all_jobs_of_a_worker(self):
        for team in ANY_TEAMS:
            for worker, level in enumerate(team):
                if level <= 6:
                    barred = [(worker, job) for job in range(level)]
                    left = [count_barred(team, [], barred, many) for many in range(len(team) + 1)]
                    self.assertEqual(left, lost_by(team, worker) + [0])
        self.assertEqual(count_barred(MIXED, [], [(12, 0), (12, 1)], 5), (lost_by(MIXED, 12) + [0])[5])

    def test_a_job_of_all_workers(self):
        for team in [team for team in ANY_TEAMS if len(team) <= 6] + [[0] * 14 + [30] * 6]:
            for job in range(0, max(team), max(1, max(team) // 5)):
                barred = [(worker, job) for worker, level in enumerate(team) if level > job]
                less = counts([level - 1 if level > job else level for level in team])
                for many in range(len(team) + 1):
                    self.assertEqual(count_barred(team, [], barred, many), less[many])

    def test_a_pair_barred_and_known(self):
        for team in ANY_TEAMS + GREAT_TEAMS:
            for many, way in some_ways(team):
                for pair in pairs_of(way)[:3]:
                    self.assertEqual(count_barred(team, pairs_of(way), [pair], many), 0)
                    self.assertEqual(count_barred(team, [pair], [(0, 59), pair], many), 0)

    def test_the_sequence_does_not_matter(self):
        for team in (MIXED, [20] * 20, STAIRS):
            many = greatest_size(team)
            way = nth_way(team, many, 0)
            barred = pairs_of(way)[::3][:6]
            told = [count_barred(team, [], barred, many), way_barred(team, [], barred, many)]
            for other in list(permutations(barred))[1::239]:
                self.assertEqual([row(team, [], list(other), many) for row in (count_barred, way_barred)], told)


def exchanged(team):
    """The jobs as a team, and for each worker which job it is there: the ablest ones first."""
    ablest = sorted(range(len(team)), key=lambda worker: -team[worker])
    return able_counts(team), [ablest.index(worker) for worker in range(len(team))]


EXCHANGED = [team for team in teams_to_four(4) if max(team) > 0][::2] + MIDDLE_TEAMS
EXCHANGED += [TWINS, [20] * 20, list(range(20)), [1] * 20, [3] * 10 + [12] * 10, [0] * 19 + [20]]


class ExchangeTest(unittest.TestCase):
    """Promise 45: the jobs as a team, the workers as its jobs."""

    def test_counts(self):
        for team in EXCHANGED:
            other, _ = exchanged(team)
            self.assertTrue(is_team(other))
            most = max(len(team), len(other))
            self.assertEqual((counts(team) + [0] * most)[:most + 1], (counts(other) + [0] * most)[:most + 1])

    def test_lists(self):
        for team in EXCHANGED:
            other, place = exchanged(team)
            for workers in (ascending_lists(range(len(team)), 4) if len(team) < 8 else [[0, 3, 5], list(range(20))]):
                moved = sorted(place[worker] for worker in workers)
                self.assertEqual(ways_of_workers(team, workers), ways_of_jobs(other, moved), (team, workers))
                self.assertIs(can_work(team, workers), can_give(other, moved))
                for jobs in ascending_lists(range(min(len(other), 6)), 3)[::3]:
                    self.assertEqual(ways_of_both(team, workers, jobs), ways_of_both(other, jobs, moved))
            for jobs in ascending_lists(range(min(len(other), 6)), 4):
                self.assertEqual(ways_of_jobs(team, jobs), ways_of_workers(other, jobs))
                self.assertIs(can_give(team, jobs), can_work(other, jobs))

    def test_shares(self):
        for team in EXCHANGED:
            other, place = exchanged(team)
            for many in sizes_of(team)[::max(1, len(team) // 4)]:
                for worker in range(len(team)):
                    self.assertEqual(worker_share(team, many, worker), job_share(other, many, place[worker]))
                for job in range(len(other)):
                    self.assertEqual(job_share(team, many, job), worker_share(other, many, job))
                always = sorted(place[worker] for worker in always_work(team, many))
                self.assertEqual(always, always_given(other, many))
                self.assertEqual(always_given(team, many), always_work(other, many))

    def test_known_and_barred_pairs(self):
        for team in EXCHANGED:
            other, place = exchanged(team)
            pool = [pair for pair in pair_pool(team) if pair[1] < len(other)]
            pairs = [pair for pair in drawn_pairs(team, 1, 2)[0] if pair in pool]
            barred = [pair for pair in drawn_pairs(team, 2, 5)[1] if pair in pool]
            moved = [[(job, place[worker]) for worker, job in rows] for rows in (pairs, barred)]
            for many in sizes_of(team)[::max(1, len(team) // 4)]:
                total = count_with(team, pairs, many)
                self.assertEqual(total, count_with(other, moved[0], many))
                left = count_barred(team, pairs, barred, many)
                self.assertEqual(left, count_barred(other, *moved, many))
                for worker, job in pool[::len(pool) // 6 + 1]:
                    if total:
                        told = next_share(other, moved[0], many, job, place[worker])
                        self.assertEqual(next_share(team, pairs, many, worker, job), told)
                    if left:
                        told = barred_share(other, *moved, many, job, place[worker])
                        self.assertEqual(barred_share(team, pairs, barred, many, worker, job), told)
                if total:
                    sure = sorted((job, place[worker]) for worker, job in sure_pairs(team, pairs, many))
                    self.assertEqual(sure, sure_pairs(other, moved[0], many))


def turned(team, by):
    """The team in another sequence, and where each worker of the old one stands there."""
    workers = list(range(len(team)))[::-1]
    workers = workers[by:] + workers[:by]
    return [team[worker] for worker in workers], [workers.index(worker) for worker in range(len(team))]


class SequenceTest(unittest.TestCase):
    """Promise 46: the same workers in another sequence."""

    def test_lists_and_papers(self):
        for team in ANY_TEAMS + GREAT_TEAMS:
            other, place = turned(team, len(team) // 2)
            lists = ascending_lists(range(len(team)), 3) if len(team) < 8 else [[0, 2, 7], list(range(12))]
            for workers in lists:
                moved = sorted(place[worker] for worker in workers)
                for row in (ways_of_workers, work_paper, can_work):
                    self.assertEqual(row(team, workers), row(other, moved))
                jobs = [worker * 2 for worker in workers]
                for row in (ways_of_jobs, give_paper, can_give):
                    self.assertEqual(row(team, jobs), row(other, jobs))
                self.assertEqual(ways_of_both(team, workers, jobs), ways_of_both(other, moved, jobs))

    def test_shares_and_pairs(self):
        for team in ANY_TEAMS + GREAT_TEAMS:
            other, place = turned(team, len(team) // 3)
            for many in sizes_of(team)[::max(1, len(team) // 3)]:
                self.assertEqual(always_given(team, many), always_given(other, many))
                always = sorted(place[worker] for worker in always_work(team, many))
                self.assertEqual(always, always_work(other, many))
                for worker in range(0, len(team), 3):
                    self.assertEqual(worker_share(team, many, worker), worker_share(other, many, place[worker]))
                    self.assertEqual(job_share(team, many, worker), job_share(other, many, worker))
                self.check_pairs(team, other, place, many)

    def check_pairs(self, team, other, place, many):
        pairs = pairs_of(nth_way(team, many, 0))[:2]
        barred = [pair for pair in drawn_pairs(team, 1, 5)[0] if pair not in pairs]
        moved = [[(place[worker], job) for worker, job in rows] for rows in (pairs, barred)]
        self.assertEqual(count_with(team, pairs, many), count_with(other, moved[0], many))
        left = count_barred(team, pairs, barred, many)
        self.assertEqual(left, count_barred(other, *moved, many))
        # The first way may be another one, for equal levels stand by index.
        self.assertEqual(hold_paper(team, pairs + barred), hold_paper(other, moved[0] + moved[1]))
        for worker, job in pair_pool(team)[::len(team) * 3 + 1]:
            told = next_share(other, moved[0], many, place[worker], job)
            self.assertEqual(next_share(team, pairs, many, worker, job), told)
            if left:
                told = barred_share(other, *moved, many, place[worker], job)
                self.assertEqual(barred_share(team, pairs, barred, many, worker, job), told)
        sure = sorted((place[worker], job) for worker, job in sure_pairs(team, pairs, many))
        self.assertEqual(sure, sure_pairs(other, moved[0], many))

    def test_full_lists(self):
        for team in ([2, 1, 2], [0, 3, 1], [4, 1, 3, 0], [2, 2, 2, 4]):
            for by in range(len(team)):
                other, place = turned(team, by)
                for names in full_lists(len(team)):
                    moved = [names[place.index(worker)] for worker in range(len(team))]
                    self.assertEqual(hits_of(team, names), hits_of(other, moved))
        for team in HIT_TEAMS:
            other, place = turned(team, 7)
            names = [(job * 7 + 3) % 20 for job in range(20)]
            moved = [names[place.index(worker)] for worker in range(20)]
            self.assertEqual(hits_of(team, names), hits_of(other, moved))


class MoreTest(unittest.TestCase):
    """Promise 47: one easiest job more, one worker more who can nothing or all."""

    def test_one_easiest_job_more(self):
        for team in teams_to_four(3) + MIDDLE_TEAMS:
            other = [level + 1 for level in team]
            n = len(team)
            for jobs in ascending_lists(range(max(team) + 1), min(n, 3)):
                moved = [job + 1 for job in jobs]
                ways = ways_of_jobs(team, jobs)
                self.assertEqual(ways_of_jobs(other, moved), ways)
                self.assertEqual(ways_of_jobs(other, [0] + moved), ways * (n - len(jobs)))
            for many in range(n + 1):
                less = counts(team)[many - 1] if many else 0
                total = counts(team)[many] + (n - many + 1) * less
                self.assertEqual(counts(other)[many], total)
                if total:
                    found = Fraction((n - many + 1) * less, total)
                    self.assertEqual(share(job_share, other, many, 0), found)
                self.check_pairs_with_job_0(team, other, many)

    def check_pairs_with_job_0(self, team, other, many):
        pairs = [pair for pair in drawn_pairs(team, 1, 2)[0]]
        moved = [(worker, job + 1) for worker, job in pairs]
        if len(team) <= 6:
            barred = [(worker, 0) for worker in range(len(team))]
            self.assertEqual(count_barred(other, moved, barred, many), count_with(team, pairs, many))
        for worker in range(len(team)):
            # Who has job 0 has no other one: the others are left.
            if many:
                ways = (lost_by(team, worker) + [0])[many - 1]
                self.assertEqual(count_with(other, [(worker, 0)], many), ways)

    def test_a_worker_more_who_can_nothing(self):
        for team in [team for team in teams_to_four(3) + MIDDLE_TEAMS + GREAT_TEAMS if len(team) < 20]:
            other = team + [0]
            n = len(team)
            for jobs in ascending_lists(range(4), 3):
                self.assertEqual(ways_of_jobs(other, jobs), ways_of_jobs(team, jobs))
                self.assertEqual(give_paper(other, jobs), give_paper(team, jobs))
            self.assertEqual((ways_of_workers(other, [n]), work_paper(other, [n])), (0, 0))
            for many in sizes_of(team):
                self.assertEqual(always_work(other, many), always_work(team, many))
                self.assertEqual(always_given(other, many), always_given(team, many))
                self.assertEqual(worker_share(other, many, n), (0, 1))
                self.assertEqual(worker_share(other, many, 0), worker_share(team, many, 0))
                pairs = pairs_of(nth_way(team, many, 0))[:2]
                self.assertEqual(count_with(other, pairs, many), count_with(team, pairs, many))
                ways = count_barred(team, pairs, [(0, 3)], many)
                self.assertEqual(count_barred(other, pairs, [(n, 0), (0, 3)], many), ways)
                self.assertEqual(way_barred(other, pairs, [(n, 0)], many), nth_with(team, pairs, many, 0) + [None])
                self.assertEqual(sure_pairs(other, pairs, many), sure_pairs(team, pairs, many))
            self.assertEqual(lost_by(other, n), counts(team))

    def test_a_worker_more_in_full_lists(self):
        for team in [[0], [1], [2, 1, 2], [0, 3, 1], [4, 1, 3, 0], [2, 2, 2, 4, 1], [1, 2, 3, 4, 5, 6]]:
            n = len(team)
            found = hit_counts(team)
            for own in (0, n + 1):
                other = team + [own]
                more = hit_counts(other)
                self.assertEqual(mean_hits(other), part(sum(other), n + 1))
                # With the hardest job, that no other one can do, the new worker leaves the lists of the team.
                hit = 1 if own else 0
                for hits in range(n + 1):
                    if more[hits + hit]:
                        ways = share(pair_by_hits, other, n, n, hits + hit) * more[hits + hit]
                        self.assertEqual(ways, found[hits])
                    else:
                        self.assertEqual(found[hits], 0)
                self.assertEqual(more[0 if own else n + 1], 0)

    def test_a_worker_more_who_can_all_jobs(self):
        for team in [team for team in teams_to_four(3) + MIDDLE_TEAMS if max(team) <= len(team)]:
            n = len(team)
            other = team + [n + 1]
            for workers in ascending_lists(range(n), n):
                ways = ways_of_workers(team, workers)
                self.assertEqual(ways_of_workers(other, workers), ways)
                self.assertEqual(ways_of_workers(other, workers + [n]), ways * (n + 1 - len(workers)))
            for many in range(n + 2):
                less = counts(team)[many - 1] if many else 0
                total = (counts(team) + [0])[many] + (n + 2 - many) * less
                self.assertEqual(counts(other)[many], total)
                if total:
                    self.assertEqual(share(worker_share, other, many, n), Fraction((n + 2 - many) * less, total))
                    self.assertEqual(count_with(other, [(n, n)], many), less)


class LessonsTest(unittest.TestCase):
    """Promise 50."""

    def test_each_lesson_of_the_told_list_helps(self):
        for team in teams_to_four(3) + MIDDLE_TEAMS + [[0] * 20, MIXED, [5] * 20, TWINS, [0] * 19 + [59]]:
            for many in range(0, len(team) + 1, max(1, len(team) // 5)):
                fewest = fewest_lessons(team, many)
                levels = taught(team, many)
                for worker, level in enumerate(levels):
                    if level > team[worker]:
                        other = team[:worker] + [team[worker] + 1] + team[worker + 1:]
                        self.assertEqual(fewest_lessons(other, many), fewest - 1)
                        self.assertIs(shows_lessons(other, many, levels), True)
                self.assertEqual(fewest_lessons(levels, many), 0)
                self.assertEqual(taught(levels, many), levels)

    def test_greater_sizes_need_no_fewer(self):
        for team in teams_to_four(4) + MIDDLE_TEAMS + GREAT_TEAMS:
            found = [fewest_lessons(team, many) for many in range(len(team) + 1)]
            self.assertEqual(found, sorted(found))
            self.assertEqual([many for many, lessons in enumerate(found) if lessons == 0], sizes_of(team))

    def test_the_best_lesson_by_the_counts(self):
        for team in teams_to_four(4) + MIDDLE_TEAMS + GREAT_TEAMS[2:5]:
            for many in range(len(team) + 1):
                raised = [team[:worker] + [level + 1] + team[worker + 1:] for worker, level in enumerate(team)]
                rises = [counts(levels)[many] - counts(team)[many] for levels in raised if is_team(levels)]
                if len(rises) == len(team):
                    best = rises.index(max(rises)) if max(rises) > 0 else None
                    self.assertEqual(best_lesson(team, many), best, (team, many))

    def test_who_is_lost(self):
        for team in teams_to_four(3) + MIDDLE_TEAMS + GREAT_TEAMS:
            for worker in range(0, len(team), max(1, len(team) // 4)):
                left = lost_by(team, worker) + [0]
                for many in sizes_of(team):
                    busy = sum(count_with(team, [(worker, job)], many) for job in range(team[worker]))
                    self.assertEqual(left[many] + busy, counts(team)[many])
                    found = 1 - Fraction(left[many], counts(team)[many])
                    self.assertEqual(share(worker_share, team, many, worker), found)


if __name__ == "__main__":
    unittest.main()
