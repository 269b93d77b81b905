"""What several tests need: teams, all their ways made one by one, and objects of all kinds."""

from itertools import product

from nestboards import errors

EXAMPLE = [2, 1, 2]
STAIRS = [level for level in range(40, 60)]


def small_teams():
    """All teams of one to three workers with levels to 4, and some larger ones."""
    teams = [list(levels) for n in (1, 2, 3) for levels in product(range(5), repeat=n)]
    return teams + [[0, 0, 0, 0], [3, 1, 3, 2], [4, 4, 0, 1], [5, 2, 2, 5], [1, 1, 1, 1, 1], [2, 0, 3, 1, 2]]


def line_by_hand(team):
    """Takes the worker of the least level again and again, of equal ones the first."""
    left = list(range(len(team)))
    found = []
    while left:
        best = left[0]
        for worker in left:
            if team[worker] < team[best]:
                best = worker
        left.remove(best)
        found.append(best)
    return found


def all_ways(team):
    """All ways of a team, each one made: the lists in which no job stands twice."""
    choices = [[None] + list(range(level)) for level in team]
    return [list(way) for way in product(*choices) if not has_twice(way)]


def has_twice(way):
    jobs = [job for job in way if job is not None]
    return any(jobs.count(job) > 1 for job in jobs)


def size_of(way):
    return len(way) - way.count(None)


def ordered_ways(team, many):
    """The ways of a size in the order that the document defines."""
    workers = line_by_hand(team)

    def place(way):
        return [1000 if way[worker] is None else way[worker] for worker in workers]

    return sorted([way for way in all_ways(team) if size_of(way) == many], key=place)


def counts_by_hand(team):
    sizes = [size_of(way) for way in all_ways(team)]
    return [sizes.count(size) for size in range(len(team) + 1)]


def nested(depth):
    thing = [2]
    for _ in range(depth - 1):
        thing = [thing]
    return thing


def plain_things():
    """Objects of the kinds that may stand for any argument, none of them a list."""
    return [
        None, True, False, 0, 1, -1, 40, 10 ** 30, -(10 ** 30), "", "2 1 2", "a\nb", (), (2, 1, 2), (None, 0, 1),
        ((1, 2), [3]), {}, {"team": [2, 1, 2]}, {"0": 2}, errors.NestError("x"), errors.InvalidTeam("x"),
        errors.Refused("busy"), errors.InvalidText(3),
    ]


def odd_lists():
    """Lists that are neither a team nor a way of the example."""
    members = [True, False, "2", (), (2,), [], [2], {}, {"a": 1}, errors.NestError("x"), -1, 10 ** 30, -(10 ** 30)]
    inside = [[2, member, 2] for member in members] + [[member, 1, 2] for member in members]
    return [[]] + inside + [[2, 1, member] for member in members] + [nested(20), [[]] * 1999, [0] * 2000]


def no_teams():
    """Objects that are no teams; whatever is a limit is passed by one."""
    lists = [[0] * 21, [None], [2, None, 2], [-1], [41], [42, 0, 42], [0, 42], [1, 60], [40] * 19 + [60]]
    return plain_things() + odd_lists() + lists


def no_ways():
    """Objects that are no ways of the example."""
    lists = [
        [0], [0, None], [0, None, 1, None], [None] * 4, [2, None, None], [None, 1, None], [None, None, 2],
        [0, 0, None], [1, None, 1], [None, 0, 0], [-1, None, None], [1, 0, 2], [0, False, 1], [True, 0, None],
    ]
    return plain_things() + odd_lists() + lists


def no_integers():
    return [thing for thing in plain_things() + odd_lists() if isinstance(thing, bool) or not isinstance(thing, int)]
