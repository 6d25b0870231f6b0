"""Numbers: exact fractions (top, bottom) in lowest terms, bottom above 0."""

from math import gcd

from oneservesall.errors import DividedByZero, InvalidIndex, InvalidNumber

ZERO = (0, 1)
ONE = (1, 1)


def is_whole(told):
    """True for an integer; True and False are none."""
    return isinstance(told, int) and not isinstance(told, bool)


def is_number(told):
    """True for a fraction in lowest terms with a bottom above 0."""
    if not isinstance(told, tuple) or len(told) != 2:
        return False
    top, bottom = told
    return is_whole(top) and is_whole(bottom) and bottom > 0 and gcd(top, bottom) == 1


def check_count(n):
    """Raises InvalidNumber if n is no integer from 0 on."""
    if not is_whole(n) or n < 0:
        raise InvalidNumber(n)


def check_some(n):
    """Raises InvalidNumber if n is no integer from 1 on."""
    if not is_whole(n) or n < 1:
        raise InvalidNumber(n)


def check_index(index, many):
    """Raises InvalidIndex if the index is none of so many places."""
    if not is_whole(index) or not 0 <= index < many:
        raise InvalidIndex(index)


def number(top, bottom):
    """The number top by bottom, in lowest terms."""
    if bottom == 0:
        raise DividedByZero(top)
    shared = gcd(top, bottom)
    if bottom < 0:
        shared = -shared
    return top // shared, bottom // shared


def plus(a, b):
    """a and b together."""
    _check_all((a, b))
    return number(a[0] * b[1] + b[0] * a[1], a[1] * b[1])


def minus(a, b):
    """a less b."""
    _check_all((a, b))
    return number(a[0] * b[1] - b[0] * a[1], a[1] * b[1])


def times(a, b):
    """a times b."""
    _check_all((a, b))
    return number(a[0] * b[0], a[1] * b[1])


def by(a, b):
    """a by b."""
    _check_all((a, b))
    if b == ZERO:
        raise DividedByZero(a)
    return number(a[0] * b[1], a[1] * b[0])


def power(a, n):
    """a to the power of an integer n from 0 on; 1 for n = 0, of 0 too."""
    _check_all((a,))
    check_count(n)
    top, bottom = ONE
    for _ in range(n):
        top = top * a[0]
        bottom = bottom * a[1]
    # Tops and bottoms without a common divisor keep none in their powers.
    return top, bottom


def below(a, b):
    """True if a is less than b."""
    _check_all((a, b))
    return _is_less(a, b)


def least(numbers):
    """The least of some numbers."""
    _check_not_empty(numbers)
    found = numbers[0]
    for a in numbers:
        if _is_less(a, found):
            found = a
    return found


def greatest(numbers):
    """The greatest of some numbers."""
    _check_not_empty(numbers)
    found = numbers[0]
    for a in numbers:
        if _is_less(found, a):
            found = a
    return found


def total(numbers):
    """The sum of numbers, 0 of none."""
    _check_all(numbers)
    found = ZERO
    for a in numbers:
        found = number(found[0] * a[1] + a[0] * found[1], found[1] * a[1])
    return found


def dot(numbers, others):
    """The sum of the products of numbers with others, pair by pair."""
    return total([times(a, b) for a, b in zip(numbers, others)])


def are_numbers(told, many):
    """True for a tuple of so many numbers."""
    return isinstance(told, tuple) and len(told) == many and all(is_number(a) for a in told)


def _is_less(a, b):
    return a[0] * b[1] < b[0] * a[1]


def _check_all(numbers):
    for a in numbers:
        if not is_number(a):
            raise InvalidNumber(a)


def _check_not_empty(numbers):
    if len(numbers) == 0:
        raise InvalidNumber(numbers)
    _check_all(numbers)
