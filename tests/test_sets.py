"""Promises 33 to 36: which workers and which jobs go together, and how often."""

import unittest
from fractions import Fraction
from math import factorial

from nestboards.counting import counts, greatest_size
from nestboards.errors import (
    InvalidJob, InvalidJobs, InvalidNumber, InvalidTeam, InvalidWorker, InvalidWorkers, NoWay,
)
from nestboards.sets import (
    always_given, always_work, can_give, can_work, give_paper, job_share, shows_give_paper, shows_work_paper,
    ways_of_both, ways_of_jobs, ways_of_workers, work_paper, worker_share,
)
from tests.helper import (
    EXAMPLE, GREAT_TEAMS, MIXED, STAIRS, ascending_lists, jobs_of, no_integers, no_jobs, no_teams, no_workers, part,
    size_of, teams_to_four, ways_in_order, workers_of,
)

OF_WORKERS = (can_work, work_paper, ways_of_workers)
OF_JOBS = (can_give, give_paper, ways_of_jobs)
OF_SIZES = (always_work, always_given)


def tally(rows):
    found = {}
    for row in rows:
        found[row] = found.get(row, 0) + 1
    return found


def bars_workers(team, workers, bound):
    return sum(team[worker] <= bound for worker in workers) > bound


def bars_jobs(team, jobs, bound):
    return sum(level > bound for level in team) < sum(job >= bound for job in jobs)


def least_of(bars, team, numbers):
    """The least number from 0 on that bars them, found by trying all that might."""
    return next((bound for bound in range(80) if bars(team, numbers, bound)), None)


class ExampleTest(unittest.TestCase):
    def test_workers(self):
        told = [
            ([], True, None, 1), ([0], True, None, 2), ([1], True, None, 1), ([2], True, None, 2),
            ([0, 1], True, None, 1), ([0, 2], True, None, 2), ([1, 2], True, None, 1), ([0, 1, 2], False, 2, 0),
        ]
        for workers, can, paper, ways in told:
            self.assertEqual([row(EXAMPLE, workers) for row in OF_WORKERS], [can, paper, ways], workers)

    def test_jobs(self):
        told = [
            ([], True, None, 1), ([0], True, None, 3), ([1], True, None, 2), ([0, 1], True, None, 4),
            ([2], False, 2, 0), ([0, 2], False, 2, 0), ([0, 1, 2], False, 2, 0), ([59], False, 2, 0),
            (list(range(20)), False, 0, 0),
        ]
        for jobs, can, paper, ways in told:
            self.assertEqual([row(EXAMPLE, jobs) for row in OF_JOBS], [can, paper, ways], jobs)

    def test_both(self):
        told = [
            ([], [], 1), ([0], [], 0), ([], [0], 0), ([0], [1], 1), ([1], [0], 1), ([1], [1], 0), ([0, 1], [0, 1], 1),
            ([0, 2], [0, 1], 2), ([0, 1, 2], [0, 1, 2], 0), ([0, 1, 2], [0, 1], 0), ([2], [2], 0),
        ]
        for workers, jobs, ways in told:
            self.assertEqual(ways_of_both(EXAMPLE, workers, jobs), ways, (workers, jobs))

    def test_sizes(self):
        self.assertEqual([always_work(EXAMPLE, many) for many in (0, 1, 2)], [[], [], []])
        self.assertEqual([always_given(EXAMPLE, many) for many in (0, 1, 2)], [[], [], [0, 1]])
        self.assertEqual([worker_share(EXAMPLE, 2, worker) for worker in (0, 1, 2)], [(3, 4), (1, 2), (3, 4)])
        self.assertEqual([job_share(EXAMPLE, 1, job) for job in (0, 1, 2, 59)], [(3, 5), (2, 5), (0, 1), (0, 1)])
        self.assertEqual([worker_share(EXAMPLE, 0, worker) for worker in (0, 1, 2)], [(0, 1)] * 3)
        self.assertEqual(always_work([1, 3], 2), [0, 1])
        self.assertEqual(always_given([1, 3], 2), [0])


class SmallTeamsTest(unittest.TestCase):
    """Promises 33 and 34: all teams of up to four workers with levels to five."""

    def test_lists_of_workers(self):
        for team in teams_to_four():
            found = tally(workers_of(way) for way in ways_in_order(team))
            for workers in ascending_lists(range(len(team)), len(team)):
                ways = found.get(tuple(workers), 0)
                paper = least_of(bars_workers, team, workers)
                self.assertEqual([row(team, workers) for row in OF_WORKERS], [ways > 0, paper, ways], (team, workers))
                self.assertIs(paper is None, ways > 0)

    def test_lists_of_jobs(self):
        for team in teams_to_four():
            found = tally(jobs_of(way) for way in ways_in_order(team))
            for jobs in ascending_lists(range(max(team) + 2), 5):
                ways = found.get(tuple(jobs), 0)
                paper = least_of(bars_jobs, team, jobs)
                self.assertEqual([row(team, jobs) for row in OF_JOBS], [ways > 0, paper, ways], (team, jobs))
                self.assertIs(paper is None, ways > 0)

    def test_lists_of_both(self):
        for team in teams_to_four(4):
            found = tally((workers_of(way), jobs_of(way)) for way in ways_in_order(team))
            for workers in ascending_lists(range(len(team)), len(team)):
                for jobs in ascending_lists(range(max(team) + 1), len(team)):
                    ways = found.get((tuple(workers), tuple(jobs)), 0)
                    self.assertEqual(ways_of_both(team, workers, jobs), ways, (team, workers, jobs))

    def test_sizes(self):
        for team in teams_to_four():
            ways = ways_in_order(team)
            for many in range(len(team) + 1):
                here = [way for way in ways if size_of(way) == many]
                if here:
                    self.check_size(team, many, here)
                else:
                    self.check_no_way(team, many)

    def check_size(self, team, many, ways):
        total = len(ways)
        busy = [sum(way[worker] is not None for way in ways) for worker in range(len(team))]
        given = [sum(job in way for way in ways) for job in range(7)]
        workers = [worker for worker, often in enumerate(busy) if often == total]
        self.assertEqual(always_work(team, many), workers, (team, many))
        self.assertEqual(always_given(team, many), [job for job in range(7) if given[job] == total], (team, many))
        for worker, often in enumerate(busy):
            self.assertEqual(worker_share(team, many, worker), part(often, total), (team, many, worker))
        for job, often in enumerate(given):
            self.assertEqual(job_share(team, many, job), part(often, total), (team, many, job))

    def check_no_way(self, team, many):
        for row in OF_SIZES:
            with self.assertRaises(NoWay):
                row(team, many)
        for row in (worker_share, job_share):
            with self.assertRaises(NoWay):
                row(team, many, 0)


class PapersTest(unittest.TestCase):
    """Promise 34: which objects show that some workers, or jobs, cannot go together."""

    def test_all_numbers(self):
        for team in teams_to_four(3):
            for workers in ascending_lists(range(len(team)), len(team)):
                for bound in range(-3, 8):
                    shown = bound >= 0 and bars_workers(team, workers, bound)
                    self.assertIs(shows_work_paper(team, workers, bound), shown, (team, workers, bound))
            for jobs in ascending_lists(range(max(team) + 2), 4):
                for bound in range(-3, 8):
                    shown = bound >= 0 and bars_jobs(team, jobs, bound)
                    self.assertIs(shows_give_paper(team, jobs, bound), shown, (team, jobs, bound))

    def test_another_number_than_the_least_shows_it(self):
        self.assertEqual(work_paper([0, 1, 1], [0, 1, 2]), 0)
        self.assertIs(shows_work_paper([0, 1, 1], [0, 1, 2], 1), True)
        self.assertEqual(give_paper([2], [0, 1, 5]), 0)
        self.assertEqual([shows_give_paper([2], [0, 1, 5], bound) for bound in range(7)], [True] * 6 + [False])

    def test_numbers_below_0_and_great_ones(self):
        for bound in (-1, -2, -60, -(10 ** 30), 10 ** 30, 10 ** 31 - 1, 20, 21, 60):
            self.assertIs(shows_work_paper([0] * 20, list(range(20)), bound), False, bound)
            self.assertIs(shows_work_paper([0], [], bound), False, bound)
            self.assertIs(shows_give_paper([0] * 20, [], bound), False, bound)
        for bound in (-1, -(10 ** 30), 60, 10 ** 30):
            self.assertIs(shows_give_paper([0], [0, 59], bound), False, bound)
        self.assertEqual([shows_give_paper([0], [0, 59], bound) for bound in (0, 1, 59)], [True] * 3)
        self.assertEqual([shows_work_paper([0] * 20, list(range(20)), bound) for bound in (0, 1, 19)], [True] * 3)

    def test_other_objects_show_nothing(self):
        # The numbers 0 and 1 show it, the truths that are equal to them do not.
        for bound in (0, 1):
            self.assertIs(shows_work_paper([0, 0, 1], [0, 1, 2], bound), True)
            self.assertIs(shows_give_paper([1], [0, 1, 2], bound), True)
        for thing in no_integers() + [(0,), [0], [1], "0", "1", {"0": 0}, (None,)]:
            self.assertIs(shows_work_paper([0, 0, 1], [0, 1, 2], thing), False, thing)
            self.assertIs(shows_give_paper([1], [0, 1, 2], thing), False, thing)


class GreatTeamsTest(unittest.TestCase):
    """Promise 35: up to twenty workers, spare numbers to 40, levels to 59."""

    def test_workers(self):
        for team in GREAT_TEAMS:
            everybody = list(range(len(team)))
            for workers in ([], everybody, everybody[::2], everybody[1::3], everybody[5:], everybody[-1:]):
                paper = least_of(bars_workers, team, workers)
                ways = 1
                for place, level in enumerate(sorted(team[worker] for worker in workers)):
                    ways *= max(0, level - place)
                self.assertEqual([row(team, workers) for row in OF_WORKERS], [paper is None, paper, ways])

    def test_jobs(self):
        for team in GREAT_TEAMS:
            top = max(team)
            for jobs in ([], list(range(20)), list(range(0, 40, 2)), [max(0, top - 1)], [0, top + 3], [59]):
                jobs = [job for job in jobs if job < 60]
                ways = 1
                for place, job in enumerate(reversed(jobs)):
                    ways *= max(0, sum(level > job for level in team) - place)
                paper = least_of(bars_jobs, team, jobs)
                self.assertEqual([row(team, jobs) for row in OF_JOBS], [paper is None, paper, ways], (team, jobs))

    def test_both(self):
        for team in GREAT_TEAMS:
            for workers in (list(range(len(team))), list(range(0, len(team), 3)), [len(team) - 1]):
                jobs = list(range(len(workers)))
                ways = 1
                for place, level in enumerate(sorted(team[worker] for worker in workers)):
                    ways *= max(0, min(level, len(workers)) - place)
                self.assertEqual(ways_of_both(team, workers, jobs), ways)
                self.assertEqual(ways_of_both(team, workers, jobs[:-1]), 0)
        self.assertEqual(ways_of_both([40] * 20, list(range(20)), list(range(20, 40))), factorial(20))
        self.assertEqual(ways_of_both(STAIRS, list(range(20)), list(range(40, 60))), 0)
        self.assertEqual(ways_of_both(STAIRS, list(range(20)), list(range(39, 59))), 1)

    def test_known_numbers(self):
        self.assertEqual(ways_of_workers(STAIRS, list(range(20))), 40 ** 20)
        self.assertEqual(ways_of_jobs(STAIRS, list(range(39, 59))), 1)
        self.assertEqual(ways_of_jobs(STAIRS, list(range(20))), factorial(20))
        self.assertEqual(ways_of_jobs([40] * 20, [39]), 20)
        self.assertEqual(give_paper(STAIRS, [58, 59]), 58)
        self.assertEqual(work_paper([0] * 20, [19]), 0)
        self.assertEqual(worker_share([40] * 20, 7, 3), (7, 20))
        self.assertEqual(job_share([40] * 20, 8, 39), (1, 5))
        self.assertEqual(always_given([20] * 20, 20), list(range(20)))
        self.assertEqual(always_work([20] * 20, 19), [])
        self.assertEqual(always_work(STAIRS, 20), list(range(20)))
        self.assertEqual(always_work([0] * 19 + [59], 1), [19])
        self.assertEqual(always_given([1] * 20, 1), [0])

    def test_shares_by_the_teams_without_a_worker_or_a_job(self):
        for team in GREAT_TEAMS:
            greatest = greatest_size(team)
            for many in sorted({0, 1, greatest // 2, greatest}):
                if many <= greatest:
                    self.check_size(team, many)

    def check_size(self, team, many):
        total = counts(team)[many]
        # Who has no job might as well be one who can do none.
        idle = [counts(team[:worker] + [0] + team[worker + 1:])[many] for worker in range(len(team))]
        for worker, ways in enumerate(idle):
            self.assertEqual(worker_share(team, many, worker), part(total - ways, total))
        self.assertEqual(always_work(team, many), [worker for worker, ways in enumerate(idle) if ways == 0])
        free = [counts([level - (level > job) for level in team])[many] for job in range(60)]
        for job, ways in enumerate(free):
            self.assertEqual(job_share(team, many, job), part(total - ways, total))
        self.assertEqual(always_given(team, many), [job for job, ways in enumerate(free) if ways == 0])
        shares = [Fraction(*worker_share(team, many, worker)) for worker in range(len(team))]
        self.assertEqual(sum(shares), many)
        self.assertEqual(sum(Fraction(*job_share(team, many, job)) for job in range(60)), many)


class RulesTest(unittest.TestCase):
    """Promise 33: lists are told twice, each its own; what is passed stays; by name."""

    def test_lists_are_new(self):
        for row, told in ((always_work, list(range(20))), (always_given, list(range(20)))):
            team = [20] * 20
            first, second = row(team, 20), row(team=team, many=20)
            self.assertEqual((first, second), (told, told))
            self.assertIsNot(first, second)
            first.append(99)
            self.assertEqual(row(many=20, team=team), told)
            self.assertEqual(team, [20] * 20)

    def test_arguments_stay(self):
        team, workers, jobs = list(MIXED), [0, 3, 5, 16], [0, 1, 2, 30]
        for row in OF_WORKERS:
            self.assertEqual(row(team, workers), row(workers=workers, team=team))
        for row in OF_JOBS:
            self.assertEqual(row(team, jobs), row(jobs=jobs, team=team))
        self.assertEqual(ways_of_both(jobs=jobs, workers=workers, team=team), ways_of_both(team, workers, jobs))
        self.assertIs(shows_work_paper(thing=0, workers=workers, team=team), True)
        self.assertIs(shows_give_paper(thing=0, jobs=jobs, team=team), False)
        self.assertEqual((team, workers, jobs), (MIXED, [0, 3, 5, 16], [0, 1, 2, 30]))


class ErrorsTest(unittest.TestCase):
    """Promise 36."""

    def test_no_teams(self):
        for team in no_teams():
            for row in OF_WORKERS + OF_JOBS:
                self.check(InvalidTeam, row, team, [])
            for row in (shows_work_paper, shows_give_paper, ways_of_both):
                self.check(InvalidTeam, row, team, [], [])
            for row in OF_SIZES:
                self.check(InvalidTeam, row, team, 0)
            for row in (worker_share, job_share):
                self.check(InvalidTeam, row, team, 0, 0)

    def check(self, error, row, *arguments):
        with self.assertRaises(error, msg=(row.__name__, arguments)):
            row(*arguments)

    def test_no_workers(self):
        for workers in no_workers():
            for row in OF_WORKERS:
                self.check(InvalidWorkers, row, EXAMPLE, workers)
            self.check(InvalidWorkers, shows_work_paper, EXAMPLE, workers, 0)
            self.check(InvalidWorkers, ways_of_both, EXAMPLE, workers, [])
        self.check(InvalidWorkers, can_work, [0], [1])
        self.check(InvalidWorkers, can_work, [0] * 20, list(range(21)))

    def test_no_jobs(self):
        for jobs in no_jobs():
            for row in OF_JOBS:
                self.check(InvalidJobs, row, EXAMPLE, jobs)
            self.check(InvalidJobs, shows_give_paper, EXAMPLE, jobs, 0)
            self.check(InvalidJobs, ways_of_both, EXAMPLE, [], jobs)

    def test_sizes_workers_and_jobs_out_of_bounds(self):
        for many in (-1, 4, 10 ** 30, -(10 ** 30), True, False):
            for row in OF_SIZES:
                self.check(InvalidNumber, row, EXAMPLE, many)
            for row in (worker_share, job_share):
                self.check(InvalidNumber, row, EXAMPLE, many, 0)
        for number in (-1, -(10 ** 30), 10 ** 30, 60, True, False):
            self.check(InvalidWorker, worker_share, EXAMPLE, 1, number)
            self.check(InvalidJob, job_share, EXAMPLE, 1, number)
        self.check(InvalidWorker, worker_share, EXAMPLE, 1, 3)

    def test_sizes_without_ways(self):
        for team, many in ((EXAMPLE, 3), ([0], 1), ([0] * 20, 1), ([19] * 20, 20), ([0] * 19 + [59], 2)):
            for row in OF_SIZES:
                self.check(NoWay, row, team, many)
            for row in (worker_share, job_share):
                self.check(NoWay, row, team, many, 0)

    def test_first_wrong_argument_decides(self):
        for row in OF_WORKERS + OF_JOBS:
            self.check(InvalidTeam, row, [41], [60])
        self.check(InvalidTeam, ways_of_both, [], [-1], [-1])
        self.check(InvalidWorkers, ways_of_both, EXAMPLE, [3], [60])
        self.check(InvalidJobs, ways_of_both, EXAMPLE, [0, 1], [60])
        self.check(InvalidWorkers, shows_work_paper, EXAMPLE, [3], [60])
        for row in (worker_share, job_share):
            self.check(InvalidTeam, row, [], -1, -1)
            self.check(InvalidNumber, row, EXAMPLE, 4, -1)
        self.check(InvalidWorker, worker_share, EXAMPLE, 3, 3)
        self.check(InvalidJob, job_share, EXAMPLE, 3, 60)

    def test_nothing_is_wrong_at_the_bounds(self):
        self.assertEqual(ways_of_workers([0] * 20, list(range(20))), 0)
        self.assertEqual(ways_of_jobs([0] * 20, list(range(40, 60))), 0)
        self.assertEqual(ways_of_jobs([0] * 19 + [59], [58]), 1)
        self.assertIs(can_give([1], [59]), False)
        self.assertEqual(job_share([0] * 19 + [59], 1, 58), (1, 59))
        self.assertEqual(job_share(EXAMPLE, 2, 59), (0, 1))
        self.assertEqual(worker_share([0], 0, 0), (0, 1))
        self.assertEqual(worker_share([20] * 20, 20, 19), (1, 1))


if __name__ == "__main__":
    unittest.main()
