"""Promises 19 to 21: from counts back to teams, or to a reason why there is none."""

import unittest
from math import comb

from nestboards import errors
from nestboards.alike import are_alike, strict_team
from nestboards.back import is_counts, reason_against, shows_reason, spare_from, team_from
from nestboards.counting import counts
from nestboards.errors import InvalidCounts
from nestboards.teams import is_team, spare_numbers
from tests.helper import (
    EXAMPLE, GREAT_TEAMS, STAIRS, ascending_to_four, counts_by_hand, no_counts, plain_things, teams_to_four,
)

OF_COUNTS = (spare_from, team_from, reason_against)
BOUND_TEAMS = [[40], [40, 40], [0, 41], [0] * 20, STAIRS, [0] * 19 + [59]]


def times(first, second):
    """The product of two polynomials, the coefficients from the constant one on."""
    found = [0] * (len(first) + len(second) - 1)
    for place, number in enumerate(first):
        for other_place, other in enumerate(second):
            found[place + other_place] += number * other
    return found


def product_of(parts):
    found = [1]
    for part in parts:
        found = times(found, part)
    return found


def value_at(polynomial, x):
    return sum(number * x ** place for place, number in enumerate(polynomial))


def counts_of(polynomial):
    """The numbers that stand for r(0), r(1) .. in R1: differences at 0 over factorials."""
    values = [value_at(polynomial, x) for x in range(len(polynomial))]
    found = []
    for place in range(len(polynomial)):
        factorial = 1
        for number in range(1, place + 1):
            factorial *= number
        found.insert(0, values[0] // factorial)
        values = [after - ahead for ahead, after in zip(values, values[1:])]
    return found


def polynomial_of(found):
    """R1 from the other side: the sum over k of r(n - k) * x * (x - 1) .. by its parts."""
    n = len(found) - 1
    whole = [0] * (n + 1)
    for k in range(n + 1):
        for place, number in enumerate(product_of([[-less, 1] for less in range(k)])):
            whole[place] += found[n - k] * number
    return whole


def times_zero(polynomial, zero):
    """How often it is a zero: of the polynomial in x - zero the lowest power that stands."""
    for power in range(len(polynomial)):
        if sum(number * comb(k, power) * zero ** (k - power) for k, number in enumerate(polynomial) if k >= power):
            return power
    return len(polynomial)


def left_by_hand(found):
    n = len(found) - 1
    polynomial = polynomial_of(found)
    return n - sum(times_zero(polynomial, zero) for zero in range(-40, n))


class ExampleTest(unittest.TestCase):
    def test_example(self):
        self.assertIs(is_counts([1, 5, 4, 0]), True)
        self.assertEqual(spare_from([1, 5, 4, 0]), [0, 1, 1])
        self.assertEqual(team_from([1, 5, 4, 0]), [0, 2, 3])
        self.assertIs(reason_against([1, 5, 4, 0]), None)
        for thing in (None, ("left", 0), ("left", 1), ("first",), (), 0):
            self.assertIs(shows_reason([1, 5, 4, 0], thing), False)

    def test_first(self):
        for found in ([0, 5, 4, 0], [2, 5, 4, 0], [0, 0], [5, 0], [10 ** 30] * 21):
            self.check_reason(found, ("first",))

    def test_left(self):
        # x * x + 1; x * (x * x + x + 1); (x + 41) has a zero that belongs to no team.
        self.check_reason(counts_of([1, 0, 1]), ("left", 2))
        self.check_reason(counts_of([0, 1, 1, 1]), ("left", 2))
        self.check_reason([1, 41], ("left", 1))
        self.check_reason([1, 10 ** 30], ("left", 1))
        self.check_reason([1, 2, 0, 0, 7], ("left", left_by_hand([1, 2, 0, 0, 7])))

    def check_reason(self, found, reason):
        self.assertEqual(reason_against(found), reason, found)
        self.assertIs(is_counts(found), False, found)
        self.assertIs(spare_from(found), None, found)
        self.assertIs(team_from(found), None, found)
        others = [None, (), ("first",), ("left",), reason + (0,), list(reason), reason[0], ("left", 0), (reason,)]
        others += [("left", d) for d in range(-2, 25)]
        for thing in others:
            self.assertIs(shows_reason(found, thing), thing == reason, (found, thing))

    def test_true_is_no_number_of_zeros(self):
        self.assertIs(shows_reason([1, 41], ("left", 1)), True)
        self.assertIs(shows_reason([1, 41], ("left", True)), False)
        self.assertIs(shows_reason([1, 41], (True,)), False)
        self.assertIs(shows_reason([1, 40], ("left", False)), False)


class SmallListsTest(unittest.TestCase):
    def test_counts_of_all_small_teams(self):
        for team in teams_to_four():
            self.check_team(team, counts_by_hand(team))

    def check_team(self, team, found):
        self.assertIs(is_counts(found), True, found)
        self.assertEqual(spare_from(found), sorted(spare_numbers(team)), team)
        self.assertEqual(team_from(found), strict_team(team), team)
        self.assertIs(reason_against(found), None, team)
        for thing in (None, ("first",), ("left", 0), ("left", 1), ("left", len(team))):
            self.assertIs(shows_reason(found, thing), False, team)

    def test_one_number_bent(self):
        for team in ascending_to_four():
            found = counts_by_hand(team)
            for place in range(len(found)):
                for step in (-2, -1, 1, 2, 10 ** 20):
                    bent = found[:place] + [found[place] + step] + found[place + 1:]
                    if bent[place] >= 0:
                        self.check_list(bent)

    def test_lists_of_small_numbers(self):
        # The numbers of ways of size 1 are the sum of the levels: few teams come into question.
        known = {tuple(counts_by_hand(team)) for team in ascending_to_four(7) if sum(team) <= 7}
        for found in self.small_lists():
            self.assertIs(is_counts(found), tuple(found) in known, found)
            self.check_list(found)

    def small_lists(self):
        lists = [[first, second] for first in range(3) for second in range(8)]
        lists += [row + [third] for row in lists for third in range(13)]
        lists += [row + [last] for row in lists if len(row) == 3 and row[0] == 1 for last in range(7)]
        return lists + [row + [0] for row in lists if len(row) == 4]

    def check_list(self, found):
        reason = ("first",) if found[0] != 1 else ("left", left_by_hand(found))
        if reason == ("left", 0):
            team = team_from(found)
            self.assertIs(is_team(team), True, found)
            self.assertEqual(counts(team), found)
            self.check_team(team, found)
        else:
            self.assertEqual(reason_against(found), reason, found)
            self.assertIs(shows_reason(found, reason), True, found)
            self.assertIs(is_counts(found), False, found)
            self.assertEqual((spare_from(found), team_from(found)), (None, None), found)


class GreatListsTest(unittest.TestCase):
    def test_counts_of_great_teams(self):
        for team in GREAT_TEAMS + BOUND_TEAMS:
            found = counts(team)
            self.assertIs(is_counts(found), True)
            self.assertEqual(spare_from(found), sorted(spare_numbers(team)))
            self.assertEqual(team_from(found), strict_team(team))
            self.assertIs(are_alike(team_from(found), team), True)
            self.assertIs(reason_against(found), None)

    def test_one_number_bent(self):
        for team in GREAT_TEAMS:
            found = counts(team)
            for place in (0, 1, 2, len(found) // 2, len(found) - 1):
                bent = found[:place] + [found[place] + 1] + found[place + 1:]
                reason = ("first",) if place == 0 else ("left", left_by_hand(bent))
                if reason == ("left", 0):
                    self.assertEqual(counts(team_from(bent)), bent)
                else:
                    self.assertEqual(reason_against(bent), reason)
                    self.assertIs(is_counts(bent), False)

    def test_a_part_without_whole_zeros(self):
        for part, left in (([1, 0, 1], 2), ([7, 3, 1], 2), ([3, 0, 0, 1], 3), ([5, 0, 1, 0, 1], 4)):
            for spares in ([], [0], [0, 0, 1], [40] * 16, list(range(1, 17)), [0, -1, -2, 3, 40]):
                self.check_product(part, spares, left)

    def test_a_zero_beyond_the_bounds(self):
        for spare in (41, 42, 100, 10 ** 20):
            for spares in ([], [0], [0, 0, 1], [40] * 19, [0, -1, -2, 3, 40]):
                self.check_product([spare, 1], spares, 1)
                self.check_product([spare * spare, 2 * spare, 1], spares[:18], 2)

    def check_product(self, part, spares, left):
        found = counts_of(product_of([part] + [[spare, 1] for spare in spares]))
        self.assertEqual(reason_against(found), ("left", left))
        self.assertEqual(left, left_by_hand(found))
        self.assertIs(shows_reason(found, ("left", left)), True)
        self.assertIs(shows_reason(found, ("left", left + 1)), False)
        self.assertIs(is_counts(found), False)
        self.assertIs(spare_from(found), None)
        self.assertIs(team_from(found), None)

    def test_spare_numbers_at_their_bound(self):
        self.assertEqual(team_from([1, 40]), [40])
        self.assertIs(team_from([1, 41]), None)
        self.assertEqual(spare_from(counts_of(product_of([[40, 1]] * 20))), [40] * 20)
        self.assertEqual(team_from([1] + [0] * 20), [0] * 20)
        self.assertEqual(spare_from([1] + [0] * 20), list(range(-19, 1)))


class ErrorsTest(unittest.TestCase):
    def test_no_counts(self):
        for thing in no_counts():
            self.assertIs(is_counts(thing), False, thing)
            for row in OF_COUNTS:
                with self.assertRaises(InvalidCounts, msg=thing):
                    row(thing)
            for reason in (None, ("first",), ("left", 1)):
                with self.assertRaises(InvalidCounts, msg=thing):
                    shows_reason(thing, reason)

    def test_things_that_are_no_reason(self):
        things = plain_things() + [[], ["first"], ["left", 1], ("first", "first"), (errors.NestError("first"),)]
        things += [("left", "1"), ("left", None), ("left", [1]), ({}, ()), ("left", 1, 1), ("", 1), ("first", 1)]
        for found in ([1, 5, 4, 0], [1, 41], [2, 5], [1, 1, 1, 1]):
            for thing in things:
                self.assertIs(shows_reason(found, thing), False, (found, thing))

    def test_nothing_is_wrong_at_the_bounds(self):
        self.assertIs(reason_against([1, 0]), None)
        self.assertEqual(spare_from([1, 0]), [0])
        self.assertEqual(reason_against([0] * 21), ("first",))
        self.assertEqual(reason_against([1] + [10 ** 30] * 20)[0], "left")
        self.assertIs(is_counts(counts(EXAMPLE)), True)


if __name__ == "__main__":
    unittest.main()
