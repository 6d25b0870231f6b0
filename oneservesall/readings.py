"""Readings of the ladder, what they cost, and which schemes are such readings."""

from oneservesall.chances import is_chance
from oneservesall.errors import InvalidAsker, InvalidPair, InvalidReading, NoReading
from oneservesall.ladders import check_ratio, check_ratio_below_one, ladder, unladder
from oneservesall.numbers import ONE, ZERO, below, check_count, dot, is_whole, minus, plus, times, total
from oneservesall.schemes import check_scheme, is_row


def is_loss(told, many):
    """True for a tuple of so many rows of so many numbers from 0 on, none less than the one ahead."""
    return isinstance(told, tuple) and len(told) == many and all(_is_loss_row(row, many) for row in told)


def is_asker(told, many):
    """True for (belief, loss) over so many counts."""
    if not isinstance(told, tuple) or len(told) != 2:
        return False
    belief, loss = told
    return is_row(belief) and len(belief) == many and is_loss(loss, many)


def losses_at(loss, i):
    """What each told count costs when the count is i."""
    return [loss[i][abs(i - j)] for j in range(len(loss))]


def check_asker(told, many):
    """Raises InvalidAsker for what is no asker over so many counts."""
    if not is_asker(told, many):
        raise InvalidAsker(told)


def read_ladder(n, ratio, reading):
    """The scheme that comes of the ladder by a reading."""
    check_count(n)
    check_ratio(ratio)
    if not _is_reading(reading, n):
        raise InvalidReading(reading)
    return tuple([_read_row(row, reading) for row in ladder(n, ratio)])


def cost(scheme, asker):
    """What a scheme with as many answers as rows costs an asker, answers told as they are."""
    check_scheme(scheme)
    many, answers = len(scheme), len(scheme[0])
    check_asker(asker, many)
    if many != answers:
        raise InvalidPair((many, answers))
    belief, loss = asker
    return dot(belief, [dot(row, losses_at(loss, i)) for i, row in enumerate(scheme)])


def best_reading(n, ratio, asker):
    """The reading that tells for each answer the least count of the least cost."""
    check_count(n)
    check_ratio(ratio)
    check_asker(asker, n + 1)
    belief, loss = asker
    # Row i, place j: what it costs on the average that i is the count and j is told.
    losses = [[times(b, a) for a in losses_at(loss, i)] for i, b in enumerate(belief)]
    told = list(zip(*losses))
    scheme = ladder(n, ratio)
    return tuple([_first_least([dot(column, costs) for costs in told]) for column in zip(*scheme)])


def mixed_of(scheme, ratio):
    """The mixed reading that makes the scheme of the ladder."""
    found = bend(scheme, ratio)
    if found is not None:
        raise NoReading(found)
    columns = list(zip(*scheme))
    return tuple([tuple([dot(row, column) for column in columns]) for row in unladder(len(scheme) - 1, ratio)])


def bend(scheme, ratio):
    """None if the scheme is a reading of the ladder, or the first (i, r) where it bends too much."""
    check_scheme(scheme)
    check_ratio_below_one(len(scheme) - 1, ratio)
    columns = list(zip(*scheme))
    for i in range(len(scheme)):
        for r, column in enumerate(columns):
            if below(_straightness(column, i, ratio), ZERO):
                return i, r
    return None


def _is_loss_row(told, many):
    if not isinstance(told, tuple) or len(told) != many or not all(is_chance(a) for a in told):
        return False
    return not any(below(b, a) for a, b in zip(told, told[1:]))


def _is_reading(told, n):
    if not isinstance(told, tuple) or len(told) != n + 1:
        return False
    return all(is_whole(j) and 0 <= j <= n for j in told)


def _read_row(row, reading):
    return tuple([total([a for a, told in zip(row, reading) if told == j]) for j in range(len(row))])


def _first_least(numbers):
    found = 0
    for j, a in enumerate(numbers):
        if below(a, numbers[found]):
            found = j
    return found


def _straightness(column, i, ratio):
    """How much room is left at count i until an answer's chances bend too much; below 0 if they do."""
    beside = total([column[j] for j in (i - 1, i + 1) if 0 <= j < len(column)])
    # An end has one neighbour alone to bend it, and so needs less weight of its own.
    weight = ONE if i in (0, len(column) - 1) else plus(ONE, times(ratio, ratio))
    return minus(times(weight, column[i]), times(ratio, beside))
