"""Teams: their line, their spare numbers, and who can do which job."""

from nestboards.common import check_job, check_worker, is_whole, is_within
from nestboards.errors import InvalidNumber, InvalidTeam

MOST_WORKERS = 20
GREATEST_SPARE = 40
GREATEST_OTHERS = 40


def is_team(thing):
    if not isinstance(thing, list) or not 1 <= len(thing) <= MOST_WORKERS:
        return False
    if not all([is_whole(level) and level >= 0 for level in thing]):
        return False
    return max(spares_of(thing)) <= GREATEST_SPARE


def check_team(team):
    if not is_team(team):
        raise InvalidTeam("a team is a list of 1 to 20 levels with spare numbers up to 40")


def line(team):
    """The workers by rising level, equal levels by index."""
    check_team(team)
    ranked = sorted([(level, worker) for worker, level in enumerate(team)])
    return [pair[1] for pair in ranked]


def spare_numbers(team):
    check_team(team)
    return spares_of(team)


def spares_of(levels):
    return [level - place for place, level in enumerate(sorted(levels))]


def can_do(team, worker, job):
    check_team(team)
    check_worker(team, worker)
    check_job(job)
    return job < team[worker]


def able_counts(team):
    """How many workers can do each job that anybody can do."""
    check_team(team)
    return [count_above(team, job) for job in range(max(team))]


def count_above(team, bound):
    return sum([1 for level in team if level > bound])


def others(team, level):
    """The list of level less each level of the team."""
    check_team(team)
    if not is_within(level, max(team), GREATEST_OTHERS):
        raise InvalidNumber("the level is an integer from the team's greatest level to 40")
    return [level - own for own in team]
