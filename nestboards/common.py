"""What several files need: bounds of integers, their errors, lists of numbers, free jobs, and fractions."""

from math import gcd
from nestboards.errors import InvalidIndex, InvalidJob, InvalidNumber, InvalidWorker, NoWay

GREATEST_JOB = 59


def is_whole(thing):
    # A boolean is an int for Python, but the document bars it.
    return isinstance(thing, int) and not isinstance(thing, bool)


def is_within(thing, least, greatest):
    return is_whole(thing) and least <= thing <= greatest


def check_worker(team, worker):
    if not is_within(worker, 0, len(team) - 1):
        raise InvalidWorker("a worker is an index of the team")


def check_job(job):
    if not is_within(job, 0, GREATEST_JOB):
        raise InvalidJob(f"a job is an integer from 0 to {GREATEST_JOB}")


def check_many(team, many):
    if not is_within(many, 0, len(team)):
        raise InvalidNumber("a size is an integer from 0 to the number of workers")


def check_index(index, total):
    if not is_within(index, 0, total - 1):
        raise InvalidIndex(f"an index is an integer from 0 on and below {total}")


def needed(ways):
    """A number of ways where a point needs one."""
    if ways == 0:
        raise NoWay("there is no such way")
    return ways


def item_or_0(numbers, place):
    """What a list of numbers has at a place, 0 before and behind the list."""
    return numbers[place] if 0 <= place < len(numbers) else 0


def left_levels(levels, taken):
    """How many jobs below each level are free if these jobs are taken."""
    return [level - len([job for job in taken if job < level]) for level in levels]


def fraction(top, bottom):
    """The tuple of top and bottom without a common divisor; bottom is at least 1."""
    common = gcd(top, bottom)
    return (top // common, bottom // common)
