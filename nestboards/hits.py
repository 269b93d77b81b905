"""Lists in which everybody has some job, by how many workers can do theirs."""

from math import factorial
from nestboards.common import check_index, check_many, check_worker, fraction, is_within, item_or_0
from nestboards.counting import counts_along
from nestboards.errors import InvalidJob, InvalidList, InvalidTeam, NoWay
from nestboards.teams import check_team


def check_levels(team):
    check_team(team)
    if max(team) > len(team):
        raise InvalidTeam("for full lists no level is above the number of workers")


def check_names(team, names):
    """Looks at the team, too, and at it first."""
    check_levels(team)
    if not is_full_list(team, names):
        raise InvalidList("a full list has each job below the number of workers once")


def is_full_list(team, names):
    if not isinstance(names, list) or len(names) != len(team):
        return False
    if not all([is_within(job, 0, len(team) - 1) for job in names]):
        return False
    return len(set(names)) == len(names)


def hit_counts(team):
    """The numbers of full lists with 0, 1 .. hits."""
    check_levels(team)
    return hits_along(team)


def hits_along(levels):
    """The same for any levels up to their number, also for none."""
    found = [0] * (len(levels) + 1)
    by_size = counts_along(sorted(levels))
    for size in range(len(levels), -1, -1):
        # R4 from the inside out: what there is so far times x - 1, and the next number.
        found = [item_or_0(found, hits - 1) - found[hits] for hits in range(len(found))]
        found[0] += by_size[size] * factorial(len(levels) - size)
    return found


def hits_of(team, names):
    check_names(team, names)
    return sum([1 for level, job in zip(team, names) if job < level])


def levels_behind(levels, job):
    """The levels of the others once the first worker has this job: it is gone, and the
    jobs above it are counted one less."""
    return [level - 1 if level > job else level for level in levels[1:]]


def hits_behind(levels, job, hits):
    """How many hits are left for the others if the first worker has this job."""
    return hits - 1 if job < levels[0] else hits


def count_lists(levels, job, hits):
    """How many full lists with just so many hits give the first worker this job."""
    return item_or_0(hits_along(levels_behind(levels, job)), hits_behind(levels, job, hits))


def nth_list(team, hits, index):
    """The full lists with just so many hits, in ascending sequence."""
    check_levels(team)
    check_many(team, hits)
    check_index(index, hits_along(team)[hits])
    levels = team
    jobs = list(range(len(team)))
    names = []
    wanted = hits
    left = index
    while jobs:
        place, left = place_at(levels, wanted, left)
        names.append(jobs.pop(place))
        wanted = hits_behind(levels, place, wanted)
        levels = levels_behind(levels, place)
    return names


def place_at(levels, hits, index):
    """Which of the jobs left the first worker has at an index, and the index behind it."""
    left = index
    for place in range(len(levels) - 1):
        ways = count_lists(levels, place, hits)
        if left < ways:
            return place, left
        left -= ways
    return len(levels) - 1, left


def list_index(team, names):
    """The index of a full list among those with as many hits."""
    levels = team
    wanted = hits_of(team, names)
    jobs = list(range(len(team)))
    index = 0
    for job in names:
        place = jobs.index(job)
        jobs.remove(job)
        index += sum([count_lists(levels, below, wanted) for below in range(place)])
        wanted = hits_behind(levels, place, wanted)
        levels = levels_behind(levels, place)
    return index


def pair_by_hits(team, worker, job, hits):
    """The share of the full lists with just so many hits in which a worker has a job."""
    check_levels(team)
    check_worker(team, worker)
    if not is_within(job, 0, len(team) - 1):
        raise InvalidJob("a job of a full list is below the number of workers")
    check_many(team, hits)
    total = hits_along(team)[hits]
    if total == 0:
        raise NoWay(f"no full list has just {hits} hits")
    levels = [team[worker]] + team[:worker] + team[worker + 1:]
    return fraction(count_lists(levels, job, hits), total)


def mean_hits(team):
    """The mean number of hits over all full lists."""
    check_levels(team)
    # A worker has each job in equally many full lists: a hit in level of n of them.
    return fraction(sum(team), len(team))
