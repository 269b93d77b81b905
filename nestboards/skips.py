"""Ways by their skips: the free jobs that the workers pass by along the line."""

from nestboards.common import check_index, check_many, fraction, is_whole, item_or_0
from nestboards.errors import InvalidNumber, NoWay
from nestboards.teams import check_team, line
from nestboards.ways import check_way, free_jobs, jobs_given


def skips_of(team, way):
    return sum(skips_by_worker(team, way))


def skips_by_worker(team, way):
    """The skips of each worker, by index."""
    check_way(team, way)
    skipped = [0] * len(team)
    taken = []
    for worker in line(team):
        free = free_jobs(team[worker], taken)
        job = way[worker]
        if job is None:
            skipped[worker] = len(free)
        else:
            skipped[worker] = free.index(job)
            taken.append(job)
    return skipped


def skip_counts(team, many):
    """How many ways of a size have 0, 1 .. skips; [] if there is no way of it."""
    check_team(team)
    check_many(team, many)
    return skip_endings(team, many)[0][0]


def skip_endings(team, many):
    """Row i, item t: how many endings there are with 0, 1 .. skips, where the workers
    from place i of the line on bring t jobs, given ahead of them, to just many."""
    rows = [[[] for _ in range(many)] + [[1], []]]
    for level in sorted(team, reverse=True):
        behind = rows[-1]
        # More jobs than the level cannot be given ahead of it: such items are not used.
        row = [
            added(shifted(behind[given], level - given), spread(behind[given + 1], level - given))
            for given in range(many + 1)
        ]
        rows.append(row + [[]])
    return rows[::-1]


def added(first, second):
    """The sums of two lists place by place, perhaps of unlike length."""
    return [item_or_0(first, place) + item_or_0(second, place) for place in range(max(len(first), len(second)))]


def shifted(numbers, steps):
    """The counts where each of those that are counted has so many skips more."""
    return [0] * steps + numbers if numbers else []


def spread(numbers, steps):
    """The counts where each stands once for each number of further skips below steps."""
    if not numbers or steps < 1:
        return []
    found = []
    total = 0
    for place in range(len(numbers) + steps - 1):
        total += item_or_0(numbers, place) - item_or_0(numbers, place - steps)
        found.append(total)
    return found


def nth_by_skips(team, many, skips, index):
    """The ways of a size with just so many skips, in their order."""
    check_team(team)
    check_many(team, many)
    if not is_whole(skips) or skips < 0:
        raise InvalidNumber("a number of skips is an integer from 0 on")
    ends = skip_endings(team, many)
    check_index(index, item_or_0(ends[0][0], skips))
    way = [None] * len(team)
    taken = []
    wanted = skips
    left = index
    for place, worker in enumerate(line(team)):
        free = free_jobs(team[worker], taken)
        step, left = step_at(ends[place + 1][len(taken) + 1], len(free), wanted, left)
        wanted -= step
        if step < len(free):
            way[worker] = free[step]
            taken.append(free[step])
    return way


def step_at(behind, free, skips, index):
    """How many of the free jobs the worker skips at an index, and the index behind it."""
    left = index
    for step in range(free):
        ways = item_or_0(behind, skips - step)
        if left < ways:
            return step, left
        left -= ways
    return free, left


def skips_index(team, way):
    """The index of a way among those of its size with as many skips."""
    skipped = skips_by_worker(team, way)
    ends = skip_endings(team, len(jobs_given(way)))
    given = 0
    wanted = sum(skipped)
    index = 0
    for place, worker in enumerate(line(team)):
        behind = ends[place + 1][given + 1]
        index += sum([item_or_0(behind, wanted - step) for step in range(skipped[worker])])
        wanted -= skipped[worker]
        if way[worker] is not None:
            given += 1
    return index


def needed_skip_counts(team, many):
    found = skip_counts(team, many)
    if not found:
        raise NoWay(f"there is no way of the size {many}")
    return found


def least_skips(team, many):
    found = needed_skip_counts(team, many)
    return min([skips for skips, ways in enumerate(found) if ways > 0])


def greatest_skips(team, many):
    return len(needed_skip_counts(team, many)) - 1


def mean_skips(team, many):
    """The mean number of skips over all ways of a size."""
    found = needed_skip_counts(team, many)
    return fraction(sum([skips * ways for skips, ways in enumerate(found)]), sum(found))
