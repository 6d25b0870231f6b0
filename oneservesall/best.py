"""What the best scheme of a factor costs an asker, and papers that no scheme of this factor costs less."""

from oneservesall.errors import InvalidAsker, InvalidPaper
from oneservesall.ladders import check_ratio
from oneservesall.numbers import ZERO, are_numbers, check_count, minus, plus, times, total
from oneservesall.readings import best_reading, check_asker, cost, is_asker, losses_at, read_ladder
from oneservesall.sums import MINUS_ONE, form_of, in_rows, least_sum, musts_of_scheme


def best(n, ratio, asker):
    """(least cost, reading of the ladder that costs so much, paper that no scheme of the factor costs less)."""
    reading = best_reading(n, ratio, asker)
    return cost(read_ladder(n, ratio, reading), asker), reading, _least_paper(n, ratio, asker)


def least_cost(n, ratio, asker):
    """The least cost of all schemes with the answers 0 to n whose factor is 1 by the ratio."""
    # The ladder serves all askers, so nothing but its own best reading has to be looked at.
    return cost(read_ladder(n, ratio, best_reading(n, ratio, asker)), asker)


def is_shown(n, ratio, asker, paper):
    """True if a paper shows that no scheme of the factor costs less than the sum of its rows."""
    return fault(n, ratio, asker, paper) is None


def shown(paper):
    """The sum of a paper's rows."""
    if not _is_paper(paper, _rows_in(paper)):
        raise InvalidPaper(paper)
    return total(paper[0])


def fault(n, ratio, asker, paper):
    """None if a paper shows what it says, or the first place where it does not.

    ("falls", i, j) or ("rises", i, j) of a number below 0, else (i, j) of a sum below 0.
    """
    check_count(n)
    check_ratio(ratio)
    check_asker(asker, n + 1)
    if not _is_paper(paper, n + 1):
        raise InvalidPaper(paper)
    rows, falls, rises = paper
    for name, numbers in (("falls", falls), ("rises", rises)):
        place = _first_below_zero(numbers)
        if place is not None:
            return name, *place
    return _first_below_zero([_sums(ratio, asker, paper, i) for i in range(n + 1)])


def musts_of(n, ratio):
    """The musts of sums.py that the chances of a scheme of the factor keep, unknown i * (n + 1) + j."""
    check_count(n)
    check_ratio(ratio)
    many = n + 1
    # The unknown of the same answer at the next count is so many further on.
    falls = [("most", form_of(ZERO, [(k, ratio), (k + many, MINUS_ONE)])) for k in range(n * many)]
    rises = [("most", form_of(ZERO, [(k, MINUS_ONE), (k + many, ratio)])) for k in range(n * many)]
    return tuple(musts_of_scheme(many, many) + falls + rises)


def aim_of(asker):
    """The form of what a scheme costs an asker, unknown i * (n + 1) + j."""
    many = _rows_in(asker)
    if not is_asker(asker, many):
        raise InvalidAsker(asker)
    belief, loss = asker
    costs = [times(b, a) for i, b in enumerate(belief) for a in losses_at(loss, i)]
    return form_of(ZERO, list(enumerate(costs)))


def _least_paper(n, ratio, asker):
    many = n + 1
    told = least_sum(many * many, musts_of(n, ratio), aim_of(asker))
    # The multipliers of the chances themselves are what the judge's sums have above 0.
    multipliers = told[3][many * many:]
    rows = tuple([minus(ZERO, a) for a in multipliers[:many]])
    falls = in_rows(multipliers[many:], n, many)
    return rows, falls, in_rows(multipliers[many + n * many:], n, many)


def _rows_in(told):
    """How many rows the first part of an asker or a paper has, 0 if it can not be told."""
    if not isinstance(told, tuple) or len(told) == 0 or not isinstance(told[0], tuple):
        return 0
    return len(told[0])


def _is_paper(told, many):
    """True for (rows, falls, rises) with the sizes of so many counts, one or more."""
    if not isinstance(told, tuple) or len(told) != 3 or many == 0 or not are_numbers(told[0], many):
        return False
    return all(_are_steps(steps, many) for steps in told[1:])


def _are_steps(told, many):
    return isinstance(told, tuple) and len(told) == many - 1 and all(are_numbers(row, many) for row in told)


def _first_below_zero(table):
    for i, row in enumerate(table):
        for j, a in enumerate(row):
            if a[0] < 0:
                return i, j
    return None


def _sums(ratio, asker, paper, i):
    """What the judge adds up at count i for each told count."""
    belief, loss = asker
    rows, falls, rises = paper
    found = [minus(times(belief[i], a), rows[i]) for a in losses_at(loss, i)]
    if i < len(falls):
        found = _added(found, ratio, falls[i], rises[i])
    if i > 0:
        found = _added(found, ratio, rises[i - 1], falls[i - 1])
    return found


def _added(sums, ratio, more, less):
    """Sums, and the ratio times what makes them more, less what makes them less."""
    return [plus(a, minus(times(ratio, b), c)) for a, b, c in zip(sums, more, less)]
