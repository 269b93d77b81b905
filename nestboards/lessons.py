"""Lessons, each of which raises one level by 1."""

from nestboards.common import check_many, check_worker, is_whole
from nestboards.counting import counts_along
from nestboards.sets import counts_without
from nestboards.teams import check_team, count_above


def lacking(levels, many):
    """For each t below many how many workers with a level above t a way of this size lacks."""
    # By R5 there is such a way if none is lacking. A lesson that raises a level from t
    # changes no other one of these numbers, so there are as many lessons as are lacking.
    return [max(0, many - bound - count_above(levels, bound)) for bound in range(many)]


def fewest_lessons(team, many):
    """The least number of lessons behind which there is a way of the size."""
    check_team(team)
    check_many(team, many)
    return sum(lacking(team, many))


def taught(team, many):
    """The least list of levels behind so many lessons that has a way of the size."""
    check_team(team)
    check_many(team, many)
    lacks = lacking(team, many)
    levels = []
    for worker, level in enumerate(team):
        top = level
        while not can_learn(team[worker + 1:], lacks):
            lacks[top] -= 1
            top += 1
        levels.append(top)
    return levels


def can_learn(levels, lacks):
    """Whether workers with these levels can have lessons so that lacks[t] raise one from t."""
    ahead = 0
    for bound, lessons in enumerate(lacks):
        # A level from which one is raised has come by the lesson ahead, or was there.
        if lessons > ahead + levels.count(bound):
            return False
        ahead = lessons
    return True


def shows_lessons(team, many, thing):
    """Whether any object is a list of levels behind so many lessons with a way of the size."""
    fewest = fewest_lessons(team, many)
    if not isinstance(thing, list) or len(thing) != len(team) or not all([is_whole(level) for level in thing]):
        return False
    if any([level < own for level, own in zip(thing, team)]) or sum(thing) - sum(team) != fewest:
        return False
    return sum(lacking(thing, many)) == 0


def best_lesson(team, many):
    """The worker by whose next lesson the number of ways of the size rises most, None
    if none rises it."""
    check_team(team)
    check_many(team, many)
    rises = [rise_by(team, many, worker) for worker in range(len(team))]
    return rises.index(max(rises)) if max(rises) > 0 else None


def rise_by(team, many, worker):
    raised = team[:worker] + [team[worker] + 1] + team[worker + 1:]
    return counts_along(sorted(raised))[many] - counts_along(sorted(team))[many]


def lost_by(team, worker):
    """The counts of the others once this worker is gone."""
    check_team(team)
    check_worker(team, worker)
    return counts_without(team, worker)
