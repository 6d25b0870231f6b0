"""Draws: things, each with its chance."""

from oneservesall.errors import InvalidChances, InvalidIndex, InvalidNumber, InvalidPair
from oneservesall.numbers import ONE, ZERO, below, by, is_number, is_whole, number, plus, times, total


def is_chance(told):
    """True for a number from 0 on."""
    return is_number(told) and told[0] >= 0


def check_chances(numbers):
    """Raises InvalidNumber for the first that is no number from 0 on."""
    for a in numbers:
        if not is_chance(a):
            raise InvalidNumber(a)


def is_draw(told):
    """True for an ascending tuple of (thing, chance) with chances above 0 and sum 1."""
    if not isinstance(told, tuple) or not all(_is_share(share) for share in told):
        return False
    return _ascends([thing for thing, _ in told]) and total([a for _, a in told]) == ONE


def check_draw(told):
    """Raises InvalidChances for what is no draw."""
    if not is_draw(told):
        raise InvalidChances(told)


def draw(rows):
    """The draw of rows (thing, chance), things any number of times."""
    check_chances([a for _, a in rows])
    _check_sum([a for _, a in rows])
    return _gathered(rows)


def mixed(draws):
    """The draw of rows (chance, draw): first one of the draws, then a thing of it."""
    check_chances([a for a, _ in draws])
    for _, part in draws:
        check_draw(part)
    _check_sum([a for a, _ in draws])
    return _gathered([(thing, times(a, b)) for a, part in draws for thing, b in part])


def mapped(draw, table):
    """The draw of what a dictionary has for a draw's things."""
    check_draw(draw)
    for thing, _ in draw:
        if thing not in table:
            raise InvalidIndex(thing)
    return _gathered([(table[thing], a) for thing, a in draw])


def both(one, other):
    """The ascending tuple of ((thing, other thing), chance) of two draws asked side by side."""
    check_draw(one)
    check_draw(other)
    return tuple([((x, y), times(a, b)) for x, a in one for y, b in other])


def chance_of(draw, thing):
    """The chance of a thing in a draw, 0 if it has not this thing."""
    check_draw(draw)
    for x, a in draw:
        if x == thing:
            return a
    return ZERO


def mean(draw):
    """The mean of a draw of integers."""
    check_draw(draw)
    if isinstance(draw[0][0], str):
        raise InvalidPair(draw)
    return total([times(number(thing, 1), a) for thing, a in draw])


def ratio_of(one, other):
    """(number, thing): the greatest chance by chance, either way about, and the least such thing.

    None if a thing is in one of the two alone.
    """
    check_draw(one)
    check_draw(other)
    if [thing for thing, _ in one] != [thing for thing, _ in other]:
        return None
    found = None
    for (thing, a), (_, b) in zip(one, other):
        ratio = by(b, a) if below(a, b) else by(a, b)
        if found is None or below(found[0], ratio):
            found = (ratio, thing)
    return found


def _is_share(told):
    if not isinstance(told, tuple) or len(told) != 2:
        return False
    thing, a = told
    return (is_whole(thing) or isinstance(thing, str)) and is_number(a) and a[0] > 0


def _ascends(things):
    # Integers and texts have no order among each other, so the kinds come first.
    if any(isinstance(thing, str) != isinstance(things[0], str) for thing in things):
        return False
    return all(x < y for x, y in zip(things, things[1:]))


def _check_sum(numbers):
    found = total(numbers)
    if found != ONE:
        raise InvalidChances(found)


def _gathered(rows):
    found = {}
    for thing, a in rows:
        found[thing] = plus(found.get(thing, ZERO), a)
    return tuple([(thing, found[thing]) for thing in sorted(found) if found[thing] != ZERO])
