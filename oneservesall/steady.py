"""Steady askers, who have a loss alone and look at the worst count."""

from oneservesall.best import least_cost
from oneservesall.errors import InvalidAsker, InvalidPair, InvalidPaper
from oneservesall.ladders import check_ratio, ladder
from oneservesall.numbers import ONE, ZERO, check_count, dot, greatest, is_number, times
from oneservesall.readings import is_loss, losses_at
from oneservesall.schemes import is_row, is_scheme, read_by, size
from oneservesall.sums import MINUS_ONE, form_of, in_rows, least_sum, musts_of_scheme


def worst(scheme, loss):
    """(number, i): the greatest cost of a scheme at a count, and the first such count."""
    rows, answers = size(scheme)
    _check_loss(loss, rows)
    if rows != answers:
        raise InvalidPair((rows, answers))
    costs = [dot(row, losses_at(loss, i)) for i, row in enumerate(scheme)]
    number = greatest(costs)
    return number, costs.index(number)


def steady(n, ratio, loss):
    """(number, mixed, belief): the mixed reading of the ladder that is best at its worst count.

    The belief is one with which no scheme of the factor costs less than that.
    """
    _check_steady(n, ratio, loss)
    many = n + 1
    told = least_sum(many * many + 1, _musts(n, ratio, loss), form_of(ZERO, [(many * many, ONE)]))
    # The more a count's multiplier, the more it has to be looked at: they are the belief.
    return told[1], in_rows(told[2], many, many), told[3][-many:]


def is_steady(n, ratio, loss, told):
    """True if (number, mixed, belief) is right: both of them cost just the number."""
    _check_steady(n, ratio, loss)
    if not _is_paper(told, n + 1):
        raise InvalidPaper(told)
    number, mixed, belief = told
    if worst(read_by(ladder(n, ratio), mixed), loss)[0] != number:
        return False
    return least_cost(n, ratio, (belief, loss)) == number


def _check_loss(told, many):
    if not is_loss(told, many):
        raise InvalidAsker(told)


def _check_steady(n, ratio, loss):
    check_count(n)
    check_ratio(ratio)
    _check_loss(loss, n + 1)


def _is_paper(told, many):
    """True for (number, mixed reading, belief) with the sizes of so many counts."""
    if not isinstance(told, tuple) or len(told) != 3 or not is_number(told[0]):
        return False
    if not is_scheme(told[1]) or size(told[1]) != (many, many):
        return False
    return is_row(told[2]) and len(told[2]) == many


def _musts(n, ratio, loss):
    """The musts of a mixed reading, row by row, and of what no count costs more than, the last unknown."""
    found = musts_of_scheme(n + 1, n + 1)
    for i, row in enumerate(ladder(n, ratio)):
        costs = [times(a, b) for a in row for b in losses_at(loss, i)]
        found.append(("most", form_of(ZERO, list(enumerate([*costs, MINUS_ONE])))))
    return found
