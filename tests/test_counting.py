"""Promises 4 and 7: the counts of a team and what follows from them."""

import unittest
from fractions import Fraction
from math import comb, perm

from nestboards.counting import counts, greatest_size, likeliest, limit_of, mean_size, shows_limit
from nestboards.errors import InvalidTeam
from nestboards.teams import spare_numbers
from tests.helper import EXAMPLE, STAIRS, counts_by_hand, no_integers, no_teams, small_teams


def bound(team, limit):
    return limit + len([level for level in team if level > limit])


def falling(x, many):
    found = 1
    for less in range(many):
        found *= x - less
    return found


class CountsTest(unittest.TestCase):
    def test_example(self):
        self.assertEqual(counts(EXAMPLE), [1, 5, 4, 0])

    def test_small_teams(self):
        for team in small_teams():
            self.assertEqual(counts(team), counts_by_hand(team), team)

    def test_levels_of_0(self):
        self.assertEqual(counts([0]), [1, 0])
        self.assertEqual(counts([0] * 20), [1] + [0] * 20)

    def test_one_worker(self):
        self.assertEqual(counts([40]), [1, 40])

    def test_equal_levels(self):
        for level in (1, 2, 19, 20, 21, 40):
            found = [comb(20, size) * perm(level, size) for size in range(21)]
            self.assertEqual(counts([level] * 20), found)

    def test_twenty_workers_with_levels_to_59(self):
        found = counts(STAIRS)
        self.assertEqual(len(found), 21)
        self.assertEqual(found[:2], [1, sum(STAIRS)])
        self.assertEqual(found[20], 40 ** 20)

    def test_r1(self):
        for team in small_teams() + [STAIRS, [40] * 20, [0] * 20, [0] * 10 + list(range(3, 13))]:
            n = len(team)
            found = counts(team)
            for x in range(-3, 25):
                product = 1
                for spare in spare_numbers(team):
                    product *= x + spare
                self.assertEqual(sum(found[n - k] * falling(x, k) for k in range(n + 1)), product, (team, x))


class GreatestSizeTest(unittest.TestCase):
    def test_example(self):
        self.assertEqual(greatest_size(EXAMPLE), 2)
        self.assertEqual(limit_of(EXAMPLE), 2)

    def test_small_teams(self):
        for team in small_teams():
            found = counts_by_hand(team)
            greatest = max(size for size in range(len(found)) if found[size])
            self.assertEqual(greatest_size(team), greatest, team)

    def test_least_limit(self):
        for team in small_teams():
            bounds = [bound(team, limit) for limit in range(10)]
            self.assertEqual(limit_of(team), bounds.index(greatest_size(team)), team)

    def test_large_teams(self):
        self.assertEqual((greatest_size([0] * 20), limit_of([0] * 20)), (0, 0))
        self.assertEqual((greatest_size(STAIRS), limit_of(STAIRS)), (20, 0))
        self.assertEqual((greatest_size([19] * 20), limit_of([19] * 20)), (19, 19))
        self.assertEqual((greatest_size([20] * 20), limit_of([20] * 20)), (20, 0))
        stairs = list(range(20))
        self.assertEqual((greatest_size(stairs), limit_of(stairs)), (19, 0))

    def test_a_limit_of_as_many_as_there_are_workers(self):
        self.assertEqual(limit_of([1]), 0)
        self.assertEqual(limit_of([1, 1]), 1)
        self.assertEqual(limit_of([3, 3, 3, 3]), 3)


class ShowsLimitTest(unittest.TestCase):
    def test_example(self):
        self.assertEqual([t for t in range(-3, 10) if shows_limit(EXAMPLE, t)], [2])

    def test_small_teams(self):
        for team in small_teams():
            greatest = greatest_size(team)
            for limit in range(8):
                self.assertIs(shows_limit(team, limit), bound(team, limit) == greatest, (team, limit))

    def test_limits_above_the_least_one(self):
        self.assertEqual(limit_of([1, 2, 3]), 0)
        self.assertEqual([t for t in range(9) if shows_limit([1, 2, 3], t)], [0, 1, 2, 3])
        self.assertEqual([t for t in range(9) if shows_limit([4, 1, 1, 2], t)], [1, 2])

    def test_integers_below_0(self):
        for team in small_teams():
            for limit in (-1, -2, -3, -20, -(10 ** 30)):
                self.assertIs(shows_limit(team, limit), False, (team, limit))

    def test_an_integer_below_0_with_the_least_sum(self):
        # -1 + 2 levels above -1 is the greatest size, too.
        self.assertEqual(greatest_size([0, 4]), 1)
        self.assertIs(shows_limit([0, 4], -1), False)

    def test_31_digits(self):
        self.assertIs(shows_limit(EXAMPLE, 10 ** 31 - 1), False)

    def test_true_and_false_are_no_limits(self):
        self.assertIs(shows_limit([1, 1], 1), True)
        self.assertIs(shows_limit([1, 1], True), False)
        self.assertIs(shows_limit([1], 0), True)
        self.assertIs(shows_limit([1], False), False)

    def test_no_integers(self):
        for team in ([1], [1, 1], EXAMPLE, [0]):
            for thing in no_integers():
                self.assertIs(shows_limit(team, thing), False, thing)

    def test_team_is_looked_at_first(self):
        for team in no_teams():
            with self.assertRaises(InvalidTeam):
                shows_limit(team, None)


class LikeliestTest(unittest.TestCase):
    def test_example(self):
        self.assertEqual(likeliest(EXAMPLE), [1])
        self.assertEqual(mean_size(EXAMPLE), (13, 10))

    def test_several_sizes(self):
        self.assertEqual(likeliest([1]), [0, 1])
        self.assertEqual(likeliest([1, 0, 0]), [0, 1])
        self.assertEqual(likeliest([2, 2, 0, 1]), [1])
        self.assertEqual(likeliest([3, 2]), [1])

    def test_small_teams(self):
        for team in small_teams():
            found = counts_by_hand(team)
            sizes = [size for size in range(len(found)) if found[size] == max(found)]
            self.assertEqual(likeliest(team), sizes, team)

    def test_mean_of_small_teams(self):
        for team in small_teams():
            found = counts_by_hand(team)
            mean = Fraction(sum(size * found[size] for size in range(len(found))), sum(found))
            self.assertEqual(mean_size(team), (mean.numerator, mean.denominator), team)

    def test_mean_0(self):
        self.assertEqual(mean_size([0]), (0, 1))
        self.assertEqual(mean_size([0] * 20), (0, 1))

    def test_mean_without_a_common_divisor(self):
        self.assertEqual(mean_size([1]), (1, 2))
        self.assertEqual(mean_size([3]), (3, 4))
        self.assertEqual(mean_size([1, 1]), (2, 3))
        self.assertEqual(mean_size([1, 2]), (1, 1))

    def test_fractions_are_tuples_of_integers(self):
        for team in ([0], [1, 2], EXAMPLE, STAIRS):
            found = mean_size(team)
            self.assertEqual([type(found), type(found[0]), type(found[1])], [tuple, int, int])


if __name__ == "__main__":
    unittest.main()
