"""What several tests need: teams, all their ways made one by one, and objects of all kinds."""

from fractions import Fraction
from functools import lru_cache
from itertools import combinations, permutations, product
from random import Random

from nestboards import errors
from nestboards.live import Bench

EXAMPLE = [2, 1, 2]
STAIRS = [level for level in range(40, 60)]
MIXED = [17, 3, 3, 0, 25, 40, 1, 17, 9, 9, 9, 30, 2, 12, 12, 5, 0, 41, 8, 3]
# Spare numbers 1, 0, 1, 0 ..: of as many alike lists as ten places of twenty can be chosen.
TWINS = [level for level in range(1, 21, 2) for _ in range(2)]
GREAT_TEAMS = [STAIRS, STAIRS[::-1], MIXED, TWINS, [40] * 20, [20] * 20, [1] * 20, [0] * 20, [0] * 19 + [59]]
GREAT_TEAMS += [[3] * 10 + [12] * 10, [7, 7, 0, 19, 33, 33, 2, 2, 2, 11, 50, 4]]
# Teams of twenty without a level above twenty, as full lists need them.
HIT_TEAMS = [[20] * 20, [0] * 20, [10] * 20, list(range(20)), list(range(20, 0, -1)), TWINS, [0] * 19 + [20]]
HIT_TEAMS += [[9, 3, 20, 19, 4, 4, 17, 14, 14, 13, 10, 11, 2, 2, 15, 7, 6, 8, 20, 3]]


def small_teams():
    """All teams of one to three workers with levels to 4, and some larger ones."""
    teams = [list(levels) for n in (1, 2, 3) for levels in product(range(5), repeat=n)]
    return teams + [[0, 0, 0, 0], [3, 1, 3, 2], [4, 4, 0, 1], [5, 2, 2, 5], [1, 1, 1, 1, 1], [2, 0, 3, 1, 2]]


def teams_to_four(greatest=5):
    """All teams of one to four workers with levels up to the greatest one."""
    return [list(levels) for n in range(1, 5) for levels in product(range(greatest + 1), repeat=n)]


def ascending_to_four(greatest=5):
    """Of these the lists of ascending levels."""
    return [team for team in teams_to_four(greatest) if team == sorted(team)]


def line_by_hand(team):
    """Takes the worker of the least level again and again, of equal ones the first."""
    left = list(range(len(team)))
    found = []
    while left:
        best = left[0]
        for worker in left:
            if team[worker] < team[best]:
                best = worker
        left.remove(best)
        found.append(best)
    return found


def all_ways(team):
    """All ways of a team, each one made: the lists in which no job stands twice."""
    choices = [[None] + list(range(level)) for level in team]
    return [list(way) for way in product(*choices) if not has_twice(way)]


def has_twice(way):
    jobs = [job for job in way if job is not None]
    return any(jobs.count(job) > 1 for job in jobs)


def size_of(way):
    return len(way) - way.count(None)


def ways_in_order(team):
    """All ways, those of each size in the order that the document defines."""
    return [list(way) for way in ways_once(tuple(team))]


@lru_cache(maxsize=None)
def ways_once(team):
    # Several tests go over the same teams: their ways are made once.
    workers = line_by_hand(team)

    def place(way):
        return [1000 if way[worker] is None else way[worker] for worker in workers]

    return [tuple(way) for way in sorted(all_ways(team), key=place)]


def ordered_ways(team, many):
    return [way for way in ways_in_order(team) if size_of(way) == many]


def skips_by_hand(team, way):
    """The skips of each worker, by index: the free jobs are told one by one."""
    gone = set()
    found = {}
    for worker in line_by_hand(team):
        end = team[worker] if way[worker] is None else way[worker]
        found[worker] = len([job for job in range(end) if job not in gone])
        gone.add(way[worker])
    return [found[worker] for worker in range(len(team))]


def full_lists(n):
    """All full lists in ascending sequence."""
    return [list(names) for names in permutations(range(n))]


def hits_by_hand(team, names):
    return len([worker for worker in range(len(team)) if names[worker] in range(team[worker])])


def as_tuple(share):
    return share.numerator, share.denominator


def part(top, bottom):
    """A share as the package tells it."""
    return as_tuple(Fraction(top, bottom))


def has_all(way, pairs):
    return all(way[worker] == job for worker, job in pairs)


def has_none(way, pairs):
    return not any(way[worker] == job for worker, job in pairs)


def workers_of(way):
    return tuple(worker for worker, job in enumerate(way) if job is not None)


def jobs_of(way):
    return tuple(sorted(job for job in way if job is not None))


def pairs_of(way):
    return [(worker, job) for worker, job in enumerate(way) if job is not None]


def pair_pool(team):
    """All pairs of a small team, also with the job that nobody can do."""
    return [(worker, job) for worker in range(len(team)) for job in range(max(team) + 1)]


def drawn_pairs(team, often, most):
    """So many lists of unlike pairs of the pool, the same ones at each call."""
    drawn = Random(str(team))
    pool = pair_pool(team)
    return [drawn.sample(pool, min(len(pool), drawn.randrange(most + 1))) for _ in range(often)]


def ascending_lists(numbers, most):
    """All ascending lists of up to so many of these numbers."""
    return [list(row) for many in range(most + 1) for row in combinations(numbers, many)]


def some_indices(total):
    """The first, the last and some further indices of so many."""
    found = {0, 1, total // 7, total // 3, total // 2, total - 2, total - 1}
    return [index for index in sorted(found) if 0 <= index < total]


def counts_by_hand(team):
    sizes = [size_of(way) for way in all_ways(team)]
    return [sizes.count(size) for size in range(len(team) + 1)]


def nested(depth):
    thing = [2]
    for _ in range(depth - 1):
        thing = [thing]
    return thing


def plain_things():
    """Objects of the kinds that may stand for any argument, none of them a list."""
    return [
        None, True, False, 0, 1, -1, 40, 10 ** 30, -(10 ** 30), "", "2 1 2", "a\nb", (), (2, 1, 2), (None, 0, 1),
        ((1, 2), [3]), {}, {"team": [2, 1, 2]}, {"0": 2}, errors.NestError("x"), errors.InvalidTeam("x"),
        errors.Refused("busy"), errors.InvalidText(3), Bench(), {"bench": [Bench()]},
    ]


def odd_lists():
    """Lists that are neither a team nor a way of the example."""
    members = [True, False, "2", (), (2,), [], [2], {}, {"a": 1}, errors.NestError("x"), -1, 10 ** 30, -(10 ** 30)]
    inside = [[2, member, 2] for member in members] + [[member, 1, 2] for member in members]
    return [[]] + inside + [[2, 1, member] for member in members] + [nested(20), [[]] * 1999, [0] * 2000]


def no_teams():
    """Objects that are no teams; whatever is a limit is passed by one."""
    lists = [[0] * 21, [None], [2, None, 2], [-1], [41], [42, 0, 42], [0, 42], [1, 60], [40] * 19 + [60]]
    return plain_things() + odd_lists() + lists


def no_ways():
    """Objects that are no ways of the example."""
    lists = [
        [0], [0, None], [0, None, 1, None], [None] * 4, [2, None, None], [None, 1, None], [None, None, 2],
        [0, 0, None], [1, None, 1], [None, 0, 0], [-1, None, None], [1, 0, 2], [0, False, 1], [True, 0, None],
    ]
    return plain_things() + odd_lists() + lists


def no_integers():
    return [thing for thing in plain_things() + odd_lists() if isinstance(thing, bool) or not isinstance(thing, int)]


NO_INDICES = [-1, -2, -(10 ** 30), 10 ** 60, True, False, None, "0", [0], (0,)]


def no_workers():
    """Objects that are no ascending lists of workers of the example."""
    lists = [
        [3], [0, 3], [-1], [-1, 0], [1, 0], [0, 0], [0, 1, 1], [2, 1, 0], [0, 2, 1], [0, 1, 2, 3], [0, 1, 2, 2],
        [False], [True], [False, True], [0, True], [None], [0, None, 2], ["0"], [(0,)], [[0]], [10 ** 30],
    ]
    return plain_things() + odd_lists()[1:] + lists + [(0, 1), {0: 1}]


def no_jobs():
    """Objects that are no ascending lists of up to twenty jobs."""
    lists = [
        [60], [0, 60], [59, 60], [-1], [-1, 0], [1, 0], [0, 0], [58, 59, 59], [5, 4, 3], list(range(21)),
        list(range(39, 60)), [0] * 20, [False], [True], [0, True], [None], [0, None, 2], ["0"], [(0,)], [10 ** 30],
    ]
    return plain_things() + odd_lists()[1:] + lists + [(0, 1), {0: 1}]


def no_pairs():
    """Objects that are neither pairs nor barred pairs of the example."""
    members = [
        (), (0,), (0, 0, 0), [0, 0], (3, 0), (-1, 0), (10 ** 30, 0), (0, 60), (0, -1), (0, 10 ** 30), (True, 0),
        (0, False), (False, True), ("0", 0), (0, "0"), (None, 0), (0, None), ((0,), 0), (0, (0,)), ([0], 0), ({}, 0),
        None, True, 0, "0:0", {}, {"0": 0}, errors.Refused("busy"), (errors.NestError("x"), 0),
    ]
    lists = [[member] for member in members] + [[(0, 0), member] for member in members]
    twice = [[(0, 0), (0, 0)], [(0, 0), (1, 0), (0, 0)], [(2, 59), (2, 59)], [(0, job) for job in range(21)]]
    wrong = [thing for thing in odd_lists() if thing != []]
    return plain_things() + lists + twice + wrong + [((0, 0),), {(0, 0): 1}, nested(19)]


def no_counts():
    """Objects that do not even have the form of counts."""
    members = [True, False, "1", None, (), (1,), [], [1], {}, errors.NestError("x"), -1, -(10 ** 30)]
    lists = [[], [1], [0], [1] * 22, [1] + [0] * 21, [1, 5, 4, -1], nested(20), [[]] * 1999, [0] * 2000]
    lists += [[1, member, 0] for member in members] + [[member, 1] for member in members]
    return plain_things() + lists + [[1, 5, member] for member in members]


def no_full_lists():
    """Objects that are no full lists of three workers."""
    lists = [
        [0, 1], [0, 1, 2, 3], [0, 1, 3], [1, 2, 3], [0, 0, 1], [0, 1, 1], [2, 2, 2], [-1, 0, 1], [0, 1, None],
        [None, 0, 1], [False, 1, 2], [0, True, 2], [True, False, 2], [0, 1, 10 ** 30], [[0], 1, 2], [0, 1, "2"],
    ]
    return plain_things() + odd_lists() + lists + [(0, 1, 2)]
