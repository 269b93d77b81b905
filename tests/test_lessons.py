"""Promises 48, 49 and 51: which lessons help, and who is missed."""

import unittest
from itertools import product

from nestboards.counting import counts, greatest_size
from nestboards.errors import InvalidNumber, InvalidTeam, InvalidWorker
from nestboards.lessons import best_lesson, fewest_lessons, lost_by, shows_lessons, taught
from tests.helper import (
    EXAMPLE, GREAT_TEAMS, MIXED, STAIRS, TWINS, counts_by_hand, no_integers, no_teams, odd_lists, plain_things,
    small_teams, teams_to_four,
)

OF_SIZES = (fewest_lessons, taught, best_lesson)
LEARNERS = [
    [0] * 20, [1] * 20, [0] * 10 + [20] * 10, [5] * 20, list(range(20)), [3] * 10 + [12] * 10, MIXED, TWINS,
    [40] * 10 + [0] * 10, [0, 40] * 10, [7, 7, 0, 19, 33, 33, 2, 2, 2, 11, 50, 4], [0] * 19 + [59],
    [2, 0, 2, 0, 2, 0, 2],
]


def has_way(levels, many):
    """Whether there is a way of the size: the ablest ones take the jobs 0, 1 .. one by one."""
    best = sorted(levels)[len(levels) - many:]
    return all(level > job for job, level in enumerate(best))


def behind_lessons(team, many):
    """All lists of levels behind so many lessons."""
    if len(team) == 1:
        return [[team[0] + many]]
    found = []
    for own in range(many + 1):
        found += [[team[0] + own] + levels for levels in behind_lessons(team[1:], many - own)]
    return found


def lists_by_hand(team, many):
    """The least number of lessons behind which there is a way, and all lists behind them."""
    lessons = 0
    while True:
        found = [levels for levels in behind_lessons(team, lessons) if has_way(levels, many)]
        if found:
            return lessons, found
        lessons += 1


def fewest_beside(fixed, free, many):
    """The least number of lessons of the free ones by which there is a way of the size."""
    found = []
    for used in range(max(0, many - len(free)), min(many, len(fixed)) + 1):
        known = sorted(fixed)[len(fixed) - used:]
        others = sorted(free)[len(free) - many + used:]
        # Costs by how many of the known ones have taken the jobs 0, 1 .. so far.
        costs = {0: 0}
        for job in range(many):
            longer = {}
            for own, cost in costs.items():
                if own < used and known[own] > job:
                    longer[own + 1] = min(cost, longer.get(own + 1, cost))
                if job - own < len(others):
                    more = cost + max(0, job + 1 - others[job - own])
                    longer[own] = min(more, longer.get(own, more))
            costs = longer
        if used in costs:
            found.append(costs[used])
    return min(found, default=None)


def taught_by_hand(team, many):
    """The least list, each level the least one with which the others can do the rest."""
    left = fewest_beside([], team, many)
    levels = []
    for worker, level in enumerate(team):
        top = level
        while fewest_beside(levels + [top], team[worker + 1:], many) != left - (top - level):
            top += 1
        left -= top - level
        levels.append(top)
    return levels


class ExampleTest(unittest.TestCase):
    def test_told(self):
        self.assertEqual([fewest_lessons(EXAMPLE, many) for many in range(4)], [0, 0, 0, 1])
        self.assertEqual([taught(EXAMPLE, many) for many in range(4)], [[2, 1, 2]] * 3 + [[2, 1, 3]])
        self.assertEqual([best_lesson(EXAMPLE, many) for many in range(4)], [None, 0, 0, 0])
        self.assertEqual([lost_by(EXAMPLE, worker) for worker in range(3)], [[1, 3, 1], [1, 4, 2], [1, 3, 1]])
        self.assertEqual([levels for levels in behind_lessons(EXAMPLE, 1) if shows_lessons(EXAMPLE, 3, levels)],
                         [[2, 1, 3], [3, 1, 2]])

    def test_one_worker(self):
        self.assertEqual((fewest_lessons([0], 1), taught([0], 1), best_lesson([0], 1)), (1, [1], 0))
        self.assertEqual((fewest_lessons([0], 0), taught([0], 0), best_lesson([0], 0)), (0, [0], None))
        self.assertEqual((fewest_lessons([40], 1), taught([40], 1), best_lesson([40], 1)), (0, [40], 0))
        self.assertEqual((lost_by([0], 0), lost_by([40], 0)), ([1], [1]))

    def test_no_single_lesson_helps(self):
        self.assertEqual(fewest_lessons([0, 0, 0], 3), 6)
        self.assertIs(best_lesson([0, 0, 0], 3), None)
        self.assertEqual(taught([0, 0, 0], 3), [1, 2, 3])


class SmallTeamsTest(unittest.TestCase):
    """Promise 48: against all lists of levels behind so many lessons."""

    def test_lists(self):
        for team in teams_to_four():
            for many in range(len(team) + 1):
                lessons, found = lists_by_hand(team, many)
                self.assertEqual(fewest_lessons(team, many), lessons, (team, many))
                self.assertEqual(taught(team, many), min(found), (team, many))

    def test_which_lists_show_it(self):
        for team in teams_to_four(3):
            for many in range(len(team) + 1):
                lessons, found = lists_by_hand(team, many)
                for levels in behind_lessons(team, lessons):
                    self.assertIs(shows_lessons(team, many, levels), levels in found, (team, many, levels))
                for levels in behind_lessons(team, lessons + 1):
                    self.assertIs(shows_lessons(team, many, levels), False, (team, many, levels))
                if lessons:
                    for levels in behind_lessons(team, lessons - 1):
                        self.assertIs(shows_lessons(team, many, levels), False, (team, many, levels))

    def test_all_lists_of_levels(self):
        for team in [[2, 1, 2], [0, 0, 0], [1, 3], [0, 2, 1], [0, 1, 1]]:
            for many in range(len(team) + 1):
                found = lists_by_hand(team, many)[1]
                for levels in product(range(-1, 5), repeat=len(team)):
                    self.assertIs(shows_lessons(team, many, list(levels)), list(levels) in found, (team, many, levels))

    def test_best_lesson(self):
        for team in teams_to_four(3) + small_teams():
            for many in range(len(team) + 1):
                before = counts_by_hand(team)[many]
                rises = [
                    counts_by_hand(team[:worker] + [level + 1] + team[worker + 1:])[many] - before
                    for worker, level in enumerate(team)
                ]
                best = rises.index(max(rises)) if max(rises) > 0 else None
                self.assertEqual(best_lesson(team, many), best, (team, many))

    def test_lost_by(self):
        for team in small_teams():
            for worker in range(len(team)):
                left = team[:worker] + team[worker + 1:]
                self.assertEqual(lost_by(team, worker), counts_by_hand(left) if left else [1], (team, worker))


class GreatTeamsTest(unittest.TestCase):
    """Promise 49."""

    def test_fewest_of_all_sizes(self):
        for team in LEARNERS + GREAT_TEAMS:
            for many in range(len(team) + 1):
                self.assertEqual(fewest_lessons(team, many), fewest_beside([], team, many), (team, many))
                levels = taught(team, many)
                self.assertIs(shows_lessons(team, many, levels), True, (team, many))
                self.assertIs(has_way(levels, many), True)
                self.assertEqual(sum(levels) - sum(team), fewest_lessons(team, many))
                if many <= greatest_size(team):
                    self.assertEqual((fewest_lessons(team, many), levels), (0, team))

    def test_least_lists(self):
        for team in LEARNERS:
            for many in sorted({1, len(team) // 2, len(team) - 1, len(team)}):
                self.assertEqual(taught(team, many), taught_by_hand(team, many), (team, many))

    def test_a_lesson_more_or_less(self):
        for team in LEARNERS:
            for many in sorted({0, len(team) // 2, len(team)}):
                levels = taught(team, many)
                for worker in range(len(team)):
                    for step in (-1, 1):
                        other = levels[:worker] + [levels[worker] + step] + levels[worker + 1:]
                        self.assertIs(shows_lessons(team, many, other), False, (team, many, other))
                self.assertIs(shows_lessons(team, many, levels[:-1]), False)
                self.assertIs(shows_lessons(team, many, levels + [0]), False)

    def test_a_lesson_moved_to_another_worker(self):
        for team in LEARNERS[:8]:
            many = len(team)
            levels = taught(team, many)
            for worker in range(0, len(team), 3):
                for other in range(1, len(team), 4):
                    moved = list(levels)
                    moved[worker] += 1
                    moved[other] -= 1
                    shown = has_way(moved, many) and all(level >= own for level, own in zip(moved, team))
                    self.assertIs(shows_lessons(team, many, moved), shown, (team, moved))

    def test_known_lists(self):
        self.assertEqual(fewest_lessons([0] * 20, 20), 210)
        self.assertEqual(taught([0] * 20, 20), list(range(1, 21)))
        self.assertEqual(taught([0] * 20, 1), [0] * 19 + [1])
        self.assertEqual(taught([1] * 20, 3), [1] * 18 + [2, 3])
        self.assertEqual(taught([0] * 19 + [59], 2), [0] * 18 + [1, 59])
        self.assertEqual(taught([2, 0, 2, 0], 4), [2, 1, 3, 4])
        self.assertEqual(taught(STAIRS, 20), STAIRS)

    def test_best_lesson(self):
        self.assertEqual(best_lesson(STAIRS, 20), 0)
        self.assertEqual(best_lesson(STAIRS[::-1], 20), 0)
        self.assertEqual(best_lesson([2] * 19 + [19], 20), None)
        self.assertEqual(best_lesson(list(range(20, 0, -1)), 20), 0)
        self.assertEqual(best_lesson([5, 1, 1, 3], 3), 1)
        self.assertEqual([best_lesson([40] * 20, many) for many in (0, 1, 20)], [None, 0, 0])
        self.assertEqual(best_lesson([0] * 20, 1), 0)
        self.assertIs(best_lesson([0] * 20, 2), None)
        # A level of 60 is none of a team of twenty, but one behind a lesson.
        self.assertEqual(best_lesson([0] * 19 + [59], 1), 0)
        self.assertEqual(best_lesson([0] * 19 + [59], 2), 0)

    def test_lost_by(self):
        for team in GREAT_TEAMS:
            for worker in range(0, len(team), 5):
                # A worker who can do nothing is no loss.
                without = counts(team[:worker] + [0] + team[worker + 1:])
                self.assertEqual(lost_by(team, worker) + [0], without)


class ThingsTest(unittest.TestCase):
    """Promise 51: any object as lessons raises nothing."""

    def test_other_objects_show_nothing(self):
        things = [thing for thing in plain_things() + odd_lists() + no_integers() if thing != [2, 1, 3]]
        members = [True, None, "3", (3,), [3], {}, 3.0, 10 ** 30, -(10 ** 30)]
        things += [[2, 1, member] for member in members if not (member == 3 and isinstance(member, int))]
        things += [(2, 1, 3), [2, True, 3], [[2, 1, 3]], {"0": [2, 1, 3]}, [2, 1, 3, 0], [10 ** 30, 1 - 10 ** 30, 5]]
        for thing in things:
            self.assertIs(shows_lessons(EXAMPLE, 3, thing), False, thing)
        self.assertIs(shows_lessons([0], 1, [True]), False)
        self.assertIs(shows_lessons([0], 1, [1]), True)
        self.assertIs(shows_lessons([0], 0, [False]), False)
        self.assertIs(shows_lessons([0], 0, [0]), True)


class RulesTest(unittest.TestCase):
    def test_lists_are_new_and_arguments_stay(self):
        for row, number in ((taught, "many"), (lost_by, "worker")):
            arguments = {"team": list(MIXED), number: 19}
            first, second = row(**arguments), row(*arguments.values())
            self.assertEqual(first, second)
            first.append(99)
            self.assertEqual(row(**dict(reversed(arguments.items()))), second)
            self.assertEqual(arguments["team"], MIXED)
        team = [2, 0, 2]
        self.assertIsNot(taught(team, 2), team)
        thing = [2, 1, 3]
        self.assertIs(shows_lessons(thing=thing, many=3, team=EXAMPLE), True)
        self.assertEqual(thing, [2, 1, 3])
        self.assertEqual(fewest_lessons(many=3, team=EXAMPLE), 1)
        self.assertEqual(best_lesson(many=2, team=EXAMPLE), 0)


class ErrorsTest(unittest.TestCase):
    """Promise 51."""

    def check(self, error, row, *arguments):
        with self.assertRaises(error, msg=(row.__name__, arguments)):
            row(*arguments)

    def test_no_teams(self):
        for team in no_teams():
            for row in OF_SIZES + (lost_by,):
                self.check(InvalidTeam, row, team, 0)
            self.check(InvalidTeam, shows_lessons, team, 0, [2, 1, 3])

    def test_sizes_and_workers_out_of_bounds(self):
        for number in (-1, 4, 20, 10 ** 30, -(10 ** 30), True, False):
            for row in OF_SIZES:
                self.check(InvalidNumber, row, EXAMPLE, number)
            self.check(InvalidNumber, shows_lessons, EXAMPLE, number, EXAMPLE)
            self.check(InvalidWorker, lost_by, EXAMPLE, number)
        self.check(InvalidWorker, lost_by, EXAMPLE, 3)

    def test_first_wrong_argument_decides(self):
        for row in OF_SIZES + (lost_by,):
            self.check(InvalidTeam, row, [41], -1)
        self.check(InvalidTeam, shows_lessons, [], -1, None)
        self.check(InvalidNumber, shows_lessons, EXAMPLE, 4, None)

    def test_nothing_is_wrong_at_the_bounds(self):
        for team in ([0], [0] * 20, STAIRS, [0] * 19 + [59]):
            for many in (0, len(team)):
                self.assertEqual(len(taught(team, many)), len(team))
                self.assertIn(best_lesson(team, many), [None] + list(range(len(team))))
            self.assertEqual(lost_by(team, len(team) - 1)[0], 1)
            self.assertEqual(len(lost_by(team, 0)), len(team))


if __name__ == "__main__":
    unittest.main()
