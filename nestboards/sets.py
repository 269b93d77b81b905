"""Which workers and which jobs can go together, and how often they do."""

from nestboards.common import (
    GREATEST_JOB, check_job, check_many, check_worker, fraction, is_whole, is_within, item_or_0, left_levels, needed,
)
from nestboards.counting import counts_along
from nestboards.errors import InvalidJobs, InvalidWorkers
from nestboards.teams import check_team, count_above

MOST_JOBS = 20


def is_ascending(thing, greatest):
    """Whether any object is an ascending list of integers from 0 to the greatest one."""
    if not isinstance(thing, list) or not all([is_within(number, 0, greatest) for number in thing]):
        return False
    return all([first < second for first, second in zip(thing, thing[1:])])


def check_workers(team, workers):
    if not is_ascending(workers, len(team) - 1):
        raise InvalidWorkers("workers are an ascending list of indices of the team")


def check_jobs(jobs):
    if not is_ascending(jobs, GREATEST_JOB) or len(jobs) > MOST_JOBS:
        raise InvalidJobs(f"jobs are an ascending list of at most {MOST_JOBS} jobs up to {GREATEST_JOB}")


def ways_of_all(levels):
    """How many ways give a job to each worker with one of these levels."""
    return counts_along(sorted(levels))[-1]


def can_work(team, workers):
    """Whether in some way just these workers have jobs."""
    return ways_of_workers(team, workers) > 0


def work_paper(team, workers):
    """The least number that shows why these workers cannot all have jobs, None if they can."""
    check_team(team)
    check_workers(team, workers)
    return min([bound for bound in range(len(workers)) if bars_workers(team, workers, bound)], default=None)


def bars_workers(team, workers, bound):
    """Whether more of the workers can do none but the first so many jobs."""
    return len([worker for worker in workers if team[worker] <= bound]) > bound


def shows_work_paper(team, workers, thing):
    check_team(team)
    check_workers(team, workers)
    return is_whole(thing) and thing >= 0 and bars_workers(team, workers, thing)


def ways_of_workers(team, workers):
    """How many ways give jobs to just these workers."""
    check_team(team)
    check_workers(team, workers)
    return ways_of_all([team[worker] for worker in workers])


def can_give(team, jobs):
    """Whether in some way just these jobs are given."""
    return ways_of_jobs(team, jobs) > 0


def give_paper(team, jobs):
    """The least number that shows why these jobs cannot all be given, None if they can."""
    check_team(team)
    check_jobs(jobs)
    return min([bound for bound in range(GREATEST_JOB + 1) if bars_jobs(team, jobs, bound)], default=None)


def bars_jobs(team, jobs, bound):
    """Whether the jobs from the bound on are more than the workers who can do any of them."""
    return count_above(team, bound) < len([job for job in jobs if job >= bound])


def shows_give_paper(team, jobs, thing):
    check_team(team)
    check_jobs(jobs)
    return is_whole(thing) and thing >= 0 and bars_jobs(team, jobs, thing)


def ways_of_jobs(team, jobs):
    """How many ways give just these jobs."""
    check_team(team)
    check_jobs(jobs)
    # Who can do a job can do all easier ones. So, seen from the jobs, the numbers of
    # those who can do them are levels, and the workers, the ablest first, are the jobs.
    return ways_of_all([count_above(team, job) for job in jobs])


def ways_of_both(team, workers, jobs):
    """In how many ways just these workers have just these jobs."""
    check_team(team)
    check_workers(team, workers)
    check_jobs(jobs)
    if len(workers) != len(jobs):
        return 0
    return ways_of_all([len([job for job in jobs if job < team[worker]]) for worker in workers])


def ways_of_size(team, many):
    return counts_along(sorted(team))[many]


def counts_without(team, worker):
    """The counts of the others, [1] if there are none."""
    return counts_along(sorted(team[:worker] + team[worker + 1:]))


def ways_without_worker(team, many, worker):
    return item_or_0(counts_without(team, worker), many)


def ways_without_job(team, many, job):
    return counts_left(team, [job])[many]


def counts_left(levels, taken):
    """The counts of workers with these levels by the jobs that are not taken."""
    return counts_along(sorted(left_levels(levels, taken)))


def always_work(team, many):
    """The workers who have a job in all ways of a size."""
    check_team(team)
    check_many(team, many)
    needed(ways_of_size(team, many))
    return [worker for worker in range(len(team)) if ways_without_worker(team, many, worker) == 0]


def always_given(team, many):
    """The jobs that are given in all ways of a size."""
    check_team(team)
    check_many(team, many)
    needed(ways_of_size(team, many))
    return [job for job in range(max(team)) if ways_without_job(team, many, job) == 0]


def worker_share(team, many, worker):
    """The share of the ways of a size in which a worker has a job."""
    check_team(team)
    check_many(team, many)
    check_worker(team, worker)
    total = needed(ways_of_size(team, many))
    return fraction(total - ways_without_worker(team, many, worker), total)


def job_share(team, many, job):
    """The share of the ways of a size in which a job is given."""
    check_team(team)
    check_many(team, many)
    check_job(job)
    total = needed(ways_of_size(team, many))
    return fraction(total - ways_without_job(team, many, job), total)
