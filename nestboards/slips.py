"""Slips: one level that was told wrong, and pairs that do not go together."""

from nestboards.back import check_counts
from nestboards.counting import counts_along
from nestboards.known import MOST_PAIRS, check_pairs
from nestboards.teams import check_team, is_team


def one_level(team, counts):
    """The tuples (worker, level) so that the team with this level there has these counts."""
    check_team(team)
    check_counts(counts)
    found = []
    for worker, own in enumerate(team):
        # There are as many ways of size 1 as the levels come to: that leaves one level.
        level = counts[1] - sum(team) + own
        levels = team[:worker] + [level] + team[worker + 1:]
        if is_team(levels) and counts_along(sorted(levels)) == counts:
            found.append((worker, level))
    return found


def wrong_pairs(team, pairs):
    """The indices of the pairs whose worker cannot do the job."""
    check_team(team)
    check_pairs(team, pairs, MOST_PAIRS)
    return [place for place, (worker, job) in enumerate(pairs) if job >= team[worker]]


def able_pairs(team, pairs):
    """The indices of the others."""
    wrong = wrong_pairs(team, pairs)
    return [place for place in range(len(pairs)) if place not in wrong]


def fewest_out(team, pairs):
    """The least number of pairs to leave out so that some way has all others."""
    able = able_pairs(team, pairs)
    return len(pairs) - most_together([pairs[place] for place in able])


def kept_pairs(team, pairs):
    """The least list of the indices of as many pairs that some way has together."""
    left = able_pairs(team, pairs)
    most = most_together([pairs[place] for place in left])
    kept = []
    while left:
        behind = [place for place in left[1:] if goes_beside(pairs[place], pairs[left[0]])]
        if len(kept) + 1 + most_together([pairs[place] for place in behind]) == most:
            kept.append(left[0])
            left = behind
        else:
            left = left[1:]
    return kept


def goes_beside(first, second):
    return first[0] != second[0] and first[1] != second[1]


def most_together(pairs):
    """The greatest number of the pairs in which no worker and no job stands twice."""
    jobs = {}
    for worker, job in pairs:
        jobs.setdefault(worker, []).append(job)
    holders = {}
    for worker in jobs:
        give_job(worker, jobs, holders, [])
    return len(holders)


def give_job(worker, jobs, holders, tried):
    """Whether the worker gets one of its jobs, perhaps as others take other ones; then
    holders tells by job who has it. The jobs in tried are looked at no more."""
    for job in jobs[worker]:
        if job not in tried:
            tried.append(job)
            if job not in holders or give_job(holders[job], jobs, holders, tried):
                holders[job] = worker
                return True
    return False
