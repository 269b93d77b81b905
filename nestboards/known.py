"""Ways of which some pairs of a worker and a job are known."""

from nestboards.common import (
    GREATEST_JOB, check_index, check_job, check_many, check_worker, fraction, is_within, item_or_0, left_levels,
    needed,
)
from nestboards.errors import InvalidPairs
from nestboards.sets import counts_left, ways_of_size
from nestboards.teams import check_team, line
from nestboards.ways import free_jobs, nth_way

MOST_PAIRS = 20


def is_pair(team, thing):
    if not isinstance(thing, tuple) or len(thing) != 2:
        return False
    return is_within(thing[0], 0, len(team) - 1) and is_within(thing[1], 0, GREATEST_JOB)


def check_pairs(team, pairs, most):
    if not isinstance(pairs, list) or len(pairs) > most or not all([is_pair(team, thing) for thing in pairs]):
        raise InvalidPairs(f"pairs are a list of at most {most} tuples of a worker and a job")
    if len(set(pairs)) != len(pairs):
        raise InvalidPairs("no pair stands twice")


def can_hold(team, pairs):
    """Whether some way has all of the pairs."""
    return hold_paper(team, pairs) is None


def hold_paper(team, pairs):
    """Why no way has all of the pairs, None if some way has."""
    check_team(team)
    check_pairs(team, pairs, MOST_PAIRS)
    return paper_against(team, pairs)


def paper_against(team, pairs):
    """The first pair that cannot be beside those ahead of it, with the reason why."""
    workers = []
    jobs = []
    for place, (worker, job) in enumerate(pairs):
        if job >= team[worker]:
            return ("unable", place)
        if worker in workers:
            return ("worker", place)
        if job in jobs:
            return ("job", place)
        workers.append(worker)
        jobs.append(job)
    return None


def count_with(team, pairs, many):
    """How many ways of a size have all of the pairs."""
    check_team(team)
    check_pairs(team, pairs, MOST_PAIRS)
    check_many(team, many)
    return ways_with(team, pairs, many)


def ways_with(team, pairs, many):
    """The same, also of more pairs than may be passed."""
    if paper_against(team, pairs) is not None:
        return 0
    busy = [worker for worker, _ in pairs]
    idle = [level for worker, level in enumerate(team) if worker not in busy]
    return item_or_0(counts_left(idle, [job for _, job in pairs]), many - len(pairs))


def with_pair(pairs, pair):
    return pairs if pair in pairs else pairs + [pair]


def nth_with(team, pairs, many, index):
    """The ways of a size that have all of the pairs, in their order."""
    check_team(team)
    check_pairs(team, pairs, MOST_PAIRS)
    check_many(team, many)
    check_index(index, ways_with(team, pairs, many))
    way = way_of(team, pairs)
    idle = [worker for worker in line(team) if way[worker] is None]
    if idle:
        taken = [job for _, job in pairs]
        # The others are a team of their own along the line, by the jobs that are left.
        free = free_jobs(max(team), taken)
        levels = left_levels([team[worker] for worker in idle], taken)
        for worker, place in zip(idle, nth_way(levels, many - len(pairs), index)):
            if place is not None:
                way[worker] = free[place]
    return way


def way_of(team, pairs):
    """The way that has just these pairs."""
    way = [None] * len(team)
    for worker, job in pairs:
        way[worker] = job
    return way


def share_with(team, pairs, many):
    """The share of all ways of a size that have all of the pairs."""
    found = count_with(team, pairs, many)
    return fraction(found, needed(ways_of_size(team, many)))


def next_share(team, pairs, many, worker, job):
    """The share of the ways of a size with all of the pairs that have this pair, too."""
    check_team(team)
    check_pairs(team, pairs, MOST_PAIRS)
    check_many(team, many)
    check_worker(team, worker)
    check_job(job)
    total = needed(ways_with(team, pairs, many))
    return fraction(ways_with(team, with_pair(pairs, (worker, job)), many), total)


def pair_counts(team, pairs, many):
    """Rows (worker, job, ways), ascending: how many of the ways have this pair, too."""
    return [
        (worker, job, ways_with(team, with_pair(pairs, (worker, job)), many))
        for worker, level in enumerate(team) for job in range(level)
    ]


def sure_pairs(team, pairs, many):
    """The pairs in all ways of a size with all of these pairs."""
    total = needed(count_with(team, pairs, many))
    return [(worker, job) for worker, job, ways in pair_counts(team, pairs, many) if ways == total]


def best_question(team, pairs, many):
    """The pair whose share of the ways with all of these pairs is nearest to a half."""
    total = needed(count_with(team, pairs, many))
    rows = [row for row in pair_counts(team, pairs, many) if 0 < row[2] < total]
    if not rows:
        return None
    best = min([(abs(2 * ways - total), worker, job) for worker, job, ways in rows])
    return best[1:]
