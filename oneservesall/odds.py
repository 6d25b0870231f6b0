"""Odds: what is believed behind an answer, and how far an answer can move it."""

from oneservesall.errors import DividedByZero, InvalidChances, NoFactor
from oneservesall.numbers import ZERO, by, check_index, dot, greatest, times, total
from oneservesall.schemes import check_as_many, check_scheme, is_row


def behind(belief, scheme, answer):
    """The belief behind an answer."""
    _check_row(belief)
    check_scheme(scheme)
    check_index(answer, len(scheme[0]))
    check_as_many(belief, scheme)
    chances = [row[answer] for row in scheme]
    whole = dot(belief, chances)
    if whole == ZERO:
        raise InvalidChances(answer)
    return tuple([by(times(b, a), whole) for b, a in zip(belief, chances)])


def odds(belief, i, j):
    """The odds of two counts: belief i by belief j."""
    _check_row(belief)
    check_index(i, len(belief))
    check_index(j, len(belief))
    if belief[j] == ZERO:
        raise DividedByZero(i)
    return by(belief[i], belief[j])


def moved(scheme, i, j):
    """(number, r): by how much the odds of i and j can grow, and the first answer at which they do."""
    check_scheme(scheme)
    check_index(i, len(scheme))
    check_index(j, len(scheme))
    return _moved(scheme, i, j)


def far(scheme):
    """The tuple of (i, j, number) for all i below j: by how much their odds move, the greater way about."""
    check_scheme(scheme)
    many = len(scheme)
    return tuple([(i, j, _farther(scheme, i, j)) for i in range(many) for j in range(i + 1, many)])


def gain(belief, scheme):
    """The chance to guess the count by the greatest belief behind the answer."""
    _check_row(belief)
    check_scheme(scheme)
    check_as_many(belief, scheme)
    # A belief behind an answer, times the chance of that answer, needs no division.
    return total([greatest([times(b, a) for b, a in zip(belief, column)]) for column in zip(*scheme)])


def told_apart(one, other):
    """The chance to guess right of which of two rows, both being as likely, an answer came."""
    _check_row(one)
    _check_row(other)
    check_as_many(one, other)
    return by(total([greatest([a, b]) for a, b in zip(one, other)]), (2, 1))


def _check_row(told):
    if not is_row(told):
        raise InvalidChances(told)


def _moved(scheme, i, j):
    for r, a in enumerate(scheme[i]):
        b = scheme[j][r]
        if b == ZERO and a != ZERO:
            raise NoFactor((i, j, r))
    shares = [(r, by(a, b)) for r, (a, b) in enumerate(zip(scheme[i], scheme[j])) if b != ZERO]
    number = greatest([share for _, share in shares])
    return number, [r for r, share in shares if share == number][0]


def _farther(scheme, i, j):
    return greatest([_moved(scheme, i, j)[0], _moved(scheme, j, i)[0]])
