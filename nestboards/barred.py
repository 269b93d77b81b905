"""Ways of which some pairs of a worker and a job are known and others are barred."""

from nestboards.common import check_job, check_many, check_worker, fraction, needed
from nestboards.known import MOST_PAIRS, check_pairs, paper_against, way_of, ways_with, with_pair
from nestboards.teams import check_team, line

MOST_BARRED = 6


def check_all(team, pairs, barred, many):
    check_team(team)
    check_pairs(team, pairs, MOST_PAIRS)
    check_pairs(team, barred, MOST_BARRED)
    check_many(team, many)


def count_barred(team, pairs, barred, many):
    """How many ways of a size have all pairs and no barred one."""
    check_all(team, pairs, barred, many)
    return ways_barred(team, pairs, barred, many)


def ways_barred(team, pairs, barred, many):
    if not barred:
        return ways_with(team, pairs, many)
    if paper_against(team, pairs) is not None:
        return 0
    # Of the ways without the other barred pairs those that have the first one go.
    first = ways_barred(team, with_pair(pairs, barred[0]), barred[1:], many)
    return ways_barred(team, pairs, barred[1:], many) - first


def barred_share(team, pairs, barred, many, worker, job):
    """The share of the ways of a size with all pairs and no barred one that have this pair."""
    check_all(team, pairs, barred, many)
    check_worker(team, worker)
    check_job(job)
    total = needed(ways_barred(team, pairs, barred, many))
    return fraction(ways_barred(team, with_pair(pairs, (worker, job)), barred, many), total)


def way_barred(team, pairs, barred, many):
    """The first way of a size that has all pairs and no barred one."""
    check_all(team, pairs, barred, many)
    needed(ways_barred(team, pairs, barred, many))
    levels = list(team)
    found = list(pairs)
    known = way_of(team, pairs)
    for worker in line(team):
        if known[worker] is None:
            job = first_job(levels, found, barred, many, worker)
            if job is None:
                # From here on the worker is as good as one who can do nothing.
                levels[worker] = 0
            else:
                found.append((worker, job))
    return way_of(team, found)


def first_job(levels, pairs, barred, many, worker):
    """The first job with which a worker leaves some way, None if it leaves one only without."""
    if len(pairs) == many:
        return None
    for job in range(levels[worker]):
        if ways_barred(levels, pairs + [(worker, job)], barred, many) > 0:
            return job
    return None
