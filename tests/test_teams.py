"""Promises 3 and 6: teams, their line, their spare numbers, who can do what."""

import unittest

from nestboards.errors import InvalidJob, InvalidNumber, InvalidTeam, InvalidWorker
from nestboards.teams import able_counts, can_do, is_team, line, others, spare_numbers
from tests.helper import EXAMPLE, STAIRS, line_by_hand, no_teams, small_teams


class IsTeamTest(unittest.TestCase):
    def test_small_teams(self):
        for team in small_teams():
            self.assertIs(is_team(team), True, team)

    def test_what_is_no_team(self):
        for thing in no_teams():
            self.assertIs(is_team(thing), False, thing)

    def test_number_of_workers(self):
        for n in range(23):
            self.assertIs(is_team([0] * n), 1 <= n <= 20, n)

    def test_spare_numbers_at_their_bound(self):
        for team in ([40], [40, 40], [0, 41], [41, 0], [0, 41, 41], [42, 0, 0], [40] * 20, STAIRS, STAIRS[::-1]):
            self.assertIs(is_team(team), True, team)
        for team in ([41], [0, 42], [42, 0], [41, 41], [43, 0, 0], [0, 42, 42], STAIRS[:-1] + [60], [59] * 20):
            self.assertIs(is_team(team), False, team)

    def test_levels_of_0_and_below(self):
        self.assertIs(is_team([0]), True)
        self.assertIs(is_team([0, 0]), True)
        self.assertIs(is_team([-1]), False)
        self.assertIs(is_team([3, -1]), False)

    def test_booleans_are_no_levels(self):
        for team in ([True], [False], [1, True], [False, 0], [2, 1, True]):
            self.assertIs(is_team(team), False, team)

    def test_levels_of_31_digits(self):
        for level in (10 ** 30, 10 ** 31 - 1, 1 - 10 ** 31):
            self.assertIs(is_team([level]), False)
            self.assertIs(is_team([0] * 19 + [level]), False)


class LineTest(unittest.TestCase):
    def test_example(self):
        self.assertEqual(line(EXAMPLE), [1, 0, 2])
        self.assertEqual(spare_numbers(EXAMPLE), [1, 1, 0])

    def test_equal_levels_by_index(self):
        self.assertEqual(line([3, 3, 3, 3]), [0, 1, 2, 3])
        self.assertEqual(line([3, 0, 3, 0]), [1, 3, 0, 2])
        self.assertEqual(line([5] * 20), list(range(20)))

    def test_one_worker(self):
        self.assertEqual(line([7]), [0])
        self.assertEqual(spare_numbers([7]), [7])
        self.assertEqual(spare_numbers([0]), [0])

    def test_spare_numbers_below_0(self):
        self.assertEqual(spare_numbers([0] * 20), list(range(0, -20, -1)))
        self.assertEqual(spare_numbers([1, 0, 0]), [0, -1, -1])

    def test_twenty_workers_with_levels_to_59(self):
        self.assertEqual(spare_numbers(STAIRS[::-1]), [40] * 20)
        self.assertEqual(line(STAIRS[::-1]), list(range(19, -1, -1)))

    def test_small_teams(self):
        for team in small_teams():
            workers = line_by_hand(team)
            self.assertEqual(line(team), workers, team)
            spares = [team[worker] - place for place, worker in enumerate(workers)]
            self.assertEqual(spare_numbers(team), spares, team)


class CanDoTest(unittest.TestCase):
    def test_jobs_below_the_level(self):
        for team in small_teams():
            for worker, level in enumerate(team):
                for job in range(7):
                    self.assertIs(can_do(team, worker, job), job in range(level), (team, worker, job))

    def test_bounds_of_the_job(self):
        self.assertIs(can_do(STAIRS, 19, 58), True)
        self.assertIs(can_do(STAIRS, 19, 59), False)
        self.assertIs(can_do([0], 0, 0), False)
        self.assertIs(can_do([0], 0, 59), False)
        for job in (-1, 60, 10 ** 30, -(10 ** 30), True, False):
            with self.assertRaises(InvalidJob):
                can_do(STAIRS, 19, job)

    def test_bounds_of_the_worker(self):
        self.assertIs(can_do(EXAMPLE, 0, 1), True)
        self.assertIs(can_do(EXAMPLE, 2, 1), True)
        for worker in (-1, -3, 3, 20, 10 ** 30, -(10 ** 30), True, False):
            with self.assertRaises(InvalidWorker):
                can_do(EXAMPLE, worker, 0)

    def test_first_wrong_argument_decides(self):
        with self.assertRaises(InvalidTeam):
            can_do([True], -1, -1)
        with self.assertRaises(InvalidWorker):
            can_do([1], 1, 60)


class AbleCountsTest(unittest.TestCase):
    def test_example(self):
        self.assertEqual(able_counts(EXAMPLE), [3, 2])

    def test_nobody_can_do_anything(self):
        self.assertEqual(able_counts([0]), [])
        self.assertEqual(able_counts([0] * 20), [])

    def test_one_who_can(self):
        self.assertEqual(able_counts([0, 3, 0]), [1, 1, 1])

    def test_twenty_workers_with_levels_to_59(self):
        self.assertEqual(able_counts(STAIRS), [20] * 40 + list(range(19, 0, -1)))

    def test_small_teams(self):
        for team in small_teams():
            found = []
            for job in range(max(team)):
                found.append(len([level for level in team if job in range(level)]))
            self.assertEqual(able_counts(team), found, team)


class OthersTest(unittest.TestCase):
    def test_from_the_greatest_level_to_40(self):
        for level in range(2, 41):
            self.assertEqual(others(EXAMPLE, level), [level - 2, level - 1, level - 2])

    def test_all_levels_alike(self):
        self.assertEqual(others([0, 0], 0), [0, 0])
        self.assertEqual(others([40] * 20, 40), [0] * 20)

    def test_number_on_both_sides(self):
        for level in (1, 0, -1, 41, 10 ** 30, -(10 ** 30), True, False):
            with self.assertRaises(InvalidNumber):
                others(EXAMPLE, level)
        for level in (-1, 41):
            with self.assertRaises(InvalidNumber):
                others([0], level)

    def test_no_level_if_the_greatest_one_is_above_40(self):
        for level in (39, 40, 41, 42):
            with self.assertRaises(InvalidNumber):
                others([0, 41], level)

    def test_first_wrong_argument_decides(self):
        with self.assertRaises(InvalidTeam):
            others([], -1)

    def test_may_be_passed_back(self):
        for team in small_teams():
            for level in (max(team), 5, 40):
                self.assertEqual(others(others(team, level), 40), [40 - level + own for own in team])


if __name__ == "__main__":
    unittest.main()
