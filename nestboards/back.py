"""From counts back to the teams that have them, or to a reason why there is none."""

from nestboards.alike import strict_levels
from nestboards.common import is_whole
from nestboards.errors import InvalidCounts
from nestboards.teams import GREATEST_SPARE, MOST_WORKERS


def is_counts(thing):
    """Whether some team has any object as its counts."""
    return has_form(thing) and spares_by(thing) is not None


def has_form(thing):
    if not isinstance(thing, list) or not 2 <= len(thing) <= MOST_WORKERS + 1:
        return False
    return all([is_whole(number) and number >= 0 for number in thing])


def check_counts(counts):
    if not has_form(counts):
        raise InvalidCounts("counts are a list of 2 to 21 integers from 0 on")


def spare_from(counts):
    """The spare numbers of the teams with these counts, None if there is none."""
    check_counts(counts)
    return spares_by(counts)


def spares_by(counts):
    if reason_by(counts) is not None:
        return None
    return sorted([-zero for zero in whole_zeros(counts)])


def team_from(counts):
    """The strict team with these counts, None if there is none."""
    spares = spare_from(counts)
    return None if spares is None else strict_levels(spares)


def reason_against(counts):
    """Why no team has these counts, None if there is one."""
    check_counts(counts)
    return reason_by(counts)


def reason_by(counts):
    if counts[0] != 1:
        return ("first",)
    left = len(counts) - 1 - len(whole_zeros(counts))
    return ("left", left) if left > 0 else None


def shows_reason(counts, thing):
    """Whether any object is the reason why no team has these counts."""
    check_counts(counts)
    # True is equal to 1 for Python, but it is no number of zeros.
    if not isinstance(thing, tuple) or any([isinstance(part, bool) for part in thing]):
        return False
    return thing == reason_by(counts)


def polynomial(counts):
    """The coefficients of the polynomial by R1, those of the highest power first."""
    found = [counts[0]]
    zero = len(counts) - 1
    for number in counts[1:]:
        # From the inside out: what there is so far times x - zero, and the next count.
        zero -= 1
        found = [first - zero * second for first, second in zip(found + [0], [0] + found)]
        found[-1] += number
    return found


def whole_zeros(counts):
    """Its zeros that belong to spare numbers, as often as they occur; the first count is 1."""
    left = polynomial(counts)
    found = []
    for zero in range(-GREATEST_SPARE, len(counts) - 1):
        parts = divided(left, zero)
        while parts[-1] == 0:
            found.append(zero)
            left = parts[:-1]
            parts = divided(left, zero)
    return found


def divided(coefficients, zero):
    """The coefficients of the quotient by x - zero, and what is left over behind them."""
    found = []
    value = 0
    for coefficient in coefficients:
        value = value * zero + coefficient
        found.append(value)
    return found
