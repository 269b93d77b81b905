"""The ways of one size, numbered in their order along the line."""

from nestboards.common import check_index, check_many, is_within
from nestboards.errors import InvalidWay
from nestboards.teams import check_team, line


def is_way(team, thing):
    check_team(team)
    if not isinstance(thing, list) or len(thing) != len(team):
        return False
    if not all([may_have(level, job) for level, job in zip(team, thing)]):
        return False
    given = jobs_given(thing)
    return len(set(given)) == len(given)


def may_have(level, job):
    return job is None or is_within(job, 0, level - 1)


def jobs_given(way):
    return [job for job in way if job is not None]


def check_way(team, way):
    """Looks at the team, too, and at it first."""
    if not is_way(team, way):
        raise InvalidWay("a way has a free job below its level or None for each worker")


def endings(team, many):
    """Row i, item t: in how many ways the workers from place i of the line on can
    bring t jobs, given to those ahead of them, to just so many."""
    rows = [[0] * many + [1, 0]]
    for level in sorted(team, reverse=True):
        behind = rows[-1]
        row = [behind[given] + max(0, level - given) * behind[given + 1] for given in range(many + 1)]
        rows.append(row + [0])
    return rows[::-1]


def free_jobs(level, taken):
    return [job for job in range(level) if job not in taken]


def nth_way(team, many, index):
    check_team(team)
    check_many(team, many)
    ends = endings(team, many)
    check_index(index, ends[0][0])
    way = [None] * len(team)
    taken = []
    left = index
    for place, worker in enumerate(line(team)):
        free = free_jobs(team[worker], taken)
        # Those behind can do all the jobs that this worker can do: whichever it
        # takes, as many endings are left.
        each = ends[place + 1][len(taken) + 1]
        if left >= len(free) * each:
            left -= len(free) * each
        else:
            step, left = divmod(left, each)
            way[worker] = free[step]
            taken.append(free[step])
    return way


def way_index(team, way):
    """The index of a way among those of its size."""
    check_way(team, way)
    ends = endings(team, len(jobs_given(way)))
    taken = []
    index = 0
    for place, worker in enumerate(line(team)):
        free = free_jobs(team[worker], taken)
        each = ends[place + 1][len(taken) + 1]
        job = way[worker]
        if job is None:
            index += len(free) * each
        else:
            index += free.index(job) * each
            taken.append(job)
    return index


def next_way(team, way):
    """The next way of this size, None behind the last one."""
    index = way_index(team, way) + 1
    many = len(jobs_given(way))
    if index == endings(team, many)[0][0]:
        return None
    return nth_way(team, many, index)
