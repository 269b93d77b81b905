"""Teams that are alike: as many workers and as many ways of each size."""

from math import comb
from nestboards.common import check_index, item_or_0
from nestboards.counting import counts
from nestboards.errors import InvalidTeam
from nestboards.teams import check_team, spares_of


def are_alike(team, other):
    check_team(team)
    check_team(other)
    return have_same_spares(team, other)


def have_same_spares(team, other):
    # By R1 teams are alike just if they have the same spare numbers, each as often.
    return sorted(spares_of(team)) == sorted(spares_of(other))


def parting(team, other):
    """The least number that is not as often a spare number of both."""
    check_team(team)
    check_team(other)
    first = spares_of(team)
    second = spares_of(other)
    return min([spare for spare in first + second if first.count(spare) != second.count(spare)], default=None)


def unlike_count(team, other):
    """The least size of which one of the teams has more ways."""
    first = counts(team)
    second = counts(other)
    for size in range(max(len(first), len(second))):
        if item_or_0(first, size) != item_or_0(second, size):
            return size
    return None


def count_alike(team):
    """How many ascending lists of levels are alike to the team."""
    check_team(team)
    return count_sequences(how_often(spares_of(team)), 0)


def how_often(numbers):
    return {number: numbers.count(number) for number in numbers}


def without_one(often, number):
    """The numbers with how often they stand, one of them taken away."""
    found = {}
    for other, many in often.items():
        left = many - 1 if other == number else many
        if left > 0:
            found[other] = left
    return found


def count_sequences(often, bottom):
    """How many sequences these numbers have that begin with bottom or more and in which
    each further number is at least the one ahead less 1."""
    found = 1
    for number, many in often.items():
        # Put in from the greatest number down, it can stand just behind those that are
        # greater by 1 and, if it may begin, in front of all; equal ones side by side.
        places = often.get(number + 1, 0) + (1 if number >= bottom else 0)
        found *= comb(many + places - 1, many)
    return found


def count_beginning(often, number):
    """How many sequences go on behind this number, which is one of them."""
    return count_sequences(without_one(often, number), number - 1)


def nth_alike(team, index):
    """The ascending lists of levels that are alike to the team, in ascending sequence."""
    check_team(team)
    often = how_often(spares_of(team))
    check_index(index, count_sequences(often, 0))
    levels = []
    bottom = 0
    left = index
    for place in range(len(team)):
        spare, left = spare_at(often, bottom, left)
        often = without_one(often, spare)
        levels.append(spare + place)
        bottom = spare - 1
    return levels


def spare_at(often, bottom, index):
    """The number with which the sequence of this index begins, and the index behind it."""
    choices = [number for number in sorted(often) if number >= bottom]
    left = index
    for number in choices[:-1]:
        ways = count_beginning(often, number)
        if left < ways:
            return number, left
        left -= ways
    return choices[-1], left


def alike_index(team, other):
    """The index of an ascending list of levels among those that are alike to the team."""
    check_team(team)
    check_team(other)
    if other != sorted(other) or not have_same_spares(team, other):
        raise InvalidTeam("the other is no ascending list of levels alike to the team")
    often = how_often(spares_of(team))
    bottom = 0
    index = 0
    for spare in spares_of(other):
        index += sum([count_beginning(often, number) for number in often if bottom <= number < spare])
        often = without_one(often, spare)
        bottom = spare - 1
    return index


def strict_team(team):
    """The one of the alike lists in which no level above 0 stands twice."""
    check_team(team)
    return strict_levels(spares_of(team))


def strict_levels(spares):
    """The strict list of levels with these spare numbers."""
    left = sorted(spares)
    # Only levels of 0 make the spare numbers fall, by 1 from 0 down to the least one.
    zeros = max(0, 1 - left[0])
    for place in range(zeros):
        left.remove(-place)
    return [0] * zeros + [zeros + place + spare for place, spare in enumerate(left)]
