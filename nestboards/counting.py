"""How many ways of each size a team has, and what follows from these counts."""

from nestboards.common import fraction, is_whole
from nestboards.teams import check_team, count_above


def counts(team):
    """The numbers of ways of the sizes 0, 1 .. up to the number of workers."""
    check_team(team)
    return counts_along(sorted(team))


def counts_along(levels):
    """The counts for ascending levels."""
    found = [1]
    for level in levels:
        found = counts_with_next(found, level)
    return found


def counts_with_next(found, level):
    """The counts behind one more worker, whose level is none below those so far."""
    longer = found + [0]
    for size, ways in enumerate(found):
        # The jobs given so far are all below this level, so that many less are free;
        # a size above the level has no ways, so the difference does not matter there.
        longer[size + 1] += ways * (level - size)
    return longer


def bound_by(team, limit):
    """What R5 takes the least of, for one t."""
    return limit + count_above(team, limit)


def greatest_size(team):
    check_team(team)
    # A limit of as many as there are workers, or a greater one, is no better than 0.
    return min([bound_by(team, limit) for limit in range(len(team))])


def limit_of(team):
    """The least limit that shows the greatest size."""
    greatest = greatest_size(team)
    limit = 0
    while bound_by(team, limit) != greatest:
        limit += 1
    return limit


def shows_limit(team, thing):
    greatest = greatest_size(team)
    if not is_whole(thing) or thing < 0:
        return False
    return bound_by(team, thing) == greatest


def likeliest(team):
    """The sizes of which there are most ways."""
    found = counts(team)
    most = max(found)
    return [size for size, ways in enumerate(found) if ways == most]


def mean_size(team):
    """The mean size over all ways of all sizes."""
    found = counts(team)
    return fraction(sum([size * ways for size, ways in enumerate(found)]), sum(found))
