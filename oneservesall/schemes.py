"""Schemes: for each count a row of the chances of the answers."""

from oneservesall.chances import is_chance
from oneservesall.errors import InvalidNumber, InvalidPair, InvalidScheme, NoFactor
from oneservesall.numbers import ONE, below, by, dot, is_number, minus, plus, times, total


def is_row(told):
    """True for a tuple of chances, one or more, with sum 1."""
    if not isinstance(told, tuple) or not all(is_chance(a) for a in told):
        return False
    return total(told) == ONE


def is_scheme(told):
    """True for a tuple of rows, one or more, with as many chances in each."""
    if not isinstance(told, tuple) or not all(is_row(row) for row in told):
        return False
    return len(told) > 0 and all(len(row) == len(told[0]) for row in told)


def check_scheme(told):
    """Raises InvalidScheme for what is no scheme."""
    if not is_scheme(told):
        raise InvalidScheme(told)


def check_as_many(one, other):
    """Raises InvalidPair if two schemes have unlike many rows, or two rows unlike many answers."""
    if len(one) != len(other):
        raise InvalidPair((len(one), len(other)))


def check_schemes(one, other):
    """Raises InvalidScheme for the first that is none, InvalidPair if they have unlike many rows."""
    check_scheme(one)
    check_scheme(other)
    check_as_many(one, other)


def size(scheme):
    """(rows, answers) of a scheme."""
    check_scheme(scheme)
    return _size(scheme)


def factor(scheme):
    """(least factor, (i, j, r)): the first neighbours and answer at which it is reached."""
    check_scheme(scheme)
    if len(scheme) == 1:
        return ONE, (0, 0, 0)
    places = _places(scheme)
    for i, j, r in places:
        if scheme[j][r][0] == 0:
            raise NoFactor((i, j, r))
    found = None
    for i, j, r in places:
        ratio = by(scheme[i][r], scheme[j][r])
        if found is None or below(found[0], ratio):
            found = (ratio, (i, j, r))
    return found


def has_factor(scheme, number):
    """True if a number from 1 on is a factor of the scheme."""
    check_scheme(scheme)
    if not is_number(number) or below(number, ONE):
        raise InvalidNumber(number)
    return not any(below(times(number, scheme[j][r]), scheme[i][r]) for i, j, r in _places(scheme))


def read_by(scheme, mixed):
    """The scheme that comes if each answer r is told by row r of a mixed reading."""
    check_scheme(scheme)
    check_scheme(mixed)
    answers = len(scheme[0])
    if answers != len(mixed):
        raise InvalidPair((answers, len(mixed)))
    columns = list(zip(*mixed))
    return tuple([tuple([dot(row, column) for column in columns]) for row in scheme])


def asked_both(one, other):
    """The scheme of one count asked by both: answers (r, s) in the order of r and then s."""
    check_schemes(one, other)
    return tuple([_products(row, beside) for row, beside in zip(one, other)])


def blended(one, other, chance):
    """The scheme that is the one with this chance, otherwise the other."""
    check_scheme(one)
    check_scheme(other)
    if _size(one) != _size(other):
        raise InvalidPair((_size(one), _size(other)))
    if not is_chance(chance) or below(ONE, chance):
        raise InvalidNumber(chance)
    return tuple([_blended_row(row, beside, chance) for row, beside in zip(one, other)])


def turned(scheme):
    """The scheme with its rows from the last to the first."""
    check_scheme(scheme)
    return scheme[::-1]


def _size(scheme):
    return len(scheme), len(scheme[0])


def _places(scheme):
    """All (i, j, r) of neighbours i and j with a chance of r at i above 0, as tuples compare."""
    many = len(scheme)
    pairs = [(i, j) for i in range(many) for j in (i - 1, i + 1) if 0 <= j < many]
    return [(i, j, r) for i, j in pairs for r, a in enumerate(scheme[i]) if a[0] > 0]


def _products(row, beside):
    return tuple([times(a, b) for a in row for b in beside])


def _blended_row(row, beside, chance):
    rest = minus(ONE, chance)
    return tuple([plus(times(chance, a), times(rest, b)) for a, b in zip(row, beside)])
