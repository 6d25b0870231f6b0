"""Ladders: the one scheme of a ratio that serves all askers of a count."""

from oneservesall.errors import InvalidNumber, InvalidRatio
from oneservesall.numbers import (
    ONE, ZERO, below, by, check_count, check_index, greatest, is_number, minus, plus, power, times, total,
)


def check_ratio(ratio):
    """Raises InvalidRatio if the ratio is no number above 0 and at most 1."""
    if not is_number(ratio) or not 0 < ratio[0] <= ratio[1]:
        raise InvalidRatio(ratio)


def check_ratio_below_one(n, ratio):
    """Raises InvalidRatio for 1 too, but for n = 0, where the ratio has no say."""
    check_ratio(ratio)
    if ratio == ONE and n > 0:
        raise InvalidRatio(ratio)


def ladder(n, ratio):
    """The ladder of a ratio and of n: the scheme with the rows and answers 0 to n."""
    check_count(n)
    check_ratio(ratio)
    return tuple([_row(n, ratio, i) for i in range(n + 1)])


def chance(n, ratio, i, r):
    """The chance with which the ladder answers r when the count is i."""
    check_count(n)
    check_ratio(ratio)
    check_index(i, n + 1)
    check_index(r, n + 1)
    return _step(n, ratio, i, r)


def unladder(n, ratio):
    """The inverse of the ladder's table."""
    check_count(n)
    check_ratio_below_one(n, ratio)
    if n == 0:
        return ((ONE,),)
    return tuple([_inverse_row(n, ratio, r) for r in range(n + 1)])


def wide(n, ratio, far):
    """The greatest chance, over all counts, of an answer at a distance of at least far."""
    check_count(n)
    check_ratio(ratio)
    check_count(far)
    return greatest([_chance_far_off(_row(n, ratio, i), i, far) for i in range(n + 1)])


def ratio_for(factor):
    """The ratio of the ladder whose factor is this: 1 by the factor."""
    if not is_number(factor) or below(factor, ONE):
        raise InvalidNumber(factor)
    return by(ONE, factor)


def _row(n, ratio, i):
    return tuple([_step(n, ratio, i, r) for r in range(n + 1)])


def _step(n, ratio, i, r):
    if n == 0:
        return ONE
    # An end answers for all that would fall beyond it, and so has more than a step within.
    weight = ONE if r in (0, n) else minus(ONE, ratio)
    return by(times(weight, power(ratio, abs(r - i))), plus(ONE, ratio))


def _inverse_row(n, ratio, r):
    # Powers of distances have an inverse with neighbours alone, so nothing else has to be reckoned.
    rest = minus(ONE, ratio)
    at_end = r in (0, n)
    middle = ONE if at_end else plus(ONE, times(ratio, ratio))
    weight = rest if at_end else times(rest, rest)
    row = [ZERO] * (n + 1)
    for i in range(max(0, r - 1), min(n, r + 1) + 1):
        row[i] = by(middle if i == r else minus(ZERO, ratio), weight)
    return tuple(row)


def _chance_far_off(row, i, far):
    return total([a for r, a in enumerate(row) if abs(r - i) >= far])
