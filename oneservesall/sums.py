"""The least of a linear sum under musts, exact, with multipliers that show it."""

from oneservesall.boards import Board
from oneservesall.errors import InvalidForm, InvalidPaper, InvalidWish
from oneservesall.numbers import ONE, ZERO, are_numbers, below, check_some, dot, is_number, is_whole, plus, times, total

MINUS_ONE = (-1, 1)


def least_sum(many, musts, aim):
    """What an aim comes to under musts.

    ("least", number, point, multipliers), ("none", multipliers) or ("endless", point, way).
    """
    _check_task(many, musts, aim)
    board = Board(many, musts, aim)
    multipliers = board.settle_equals()
    if multipliers is None:
        board.find_unknowns()
        multipliers = board.lift_off()
    if multipliers is not None:
        return "none", multipliers
    way = board.way_down()
    if way is not None:
        return "endless", board.point(), way
    return "least", board.least(), board.point(), board.aim_multipliers()


def shows(many, musts, aim, told):
    """True if a tuple of one of the three forms shows what it says of an aim under musts."""
    _check_task(many, musts, aim)
    if not _is_paper(told, many, len(musts)):
        raise InvalidPaper(told)
    if told[0] == "endless":
        return _keeps(musts, told[1]) and _falls(musts, aim, told[2])
    if told[0] == "none":
        return _is_against(many, musts, told[1])
    return _keeps(musts, told[2]) and _worth(aim, told[2]) == told[1] and _holds(many, musts, aim, told)


def is_form(told, many):
    """True for (constant, terms) over so many unknowns."""
    if not isinstance(told, tuple) or len(told) != 2 or not is_number(told[0]):
        return False
    terms = told[1]
    if not isinstance(terms, tuple) or not all(_is_term(term, many) for term in terms):
        return False
    return all(term[0] < following[0] for term, following in zip(terms, terms[1:]))


def form_of(constant, terms):
    """The form of a constant and of terms (unknown, number), those without the ones of 0."""
    return constant, tuple([term for term in terms if term[1] != ZERO])


def musts_of_scheme(rows, answers):
    """The list of the musts of unknowns that are the chances of a scheme, row by row."""
    found = [("most", form_of(ZERO, [(k, MINUS_ONE)])) for k in range(rows * answers)]
    for i in range(rows):
        found.append(("is", form_of(MINUS_ONE, [(i * answers + j, ONE) for j in range(answers)])))
    return found


def in_rows(numbers, many, width):
    """The first numbers of a tuple as so many rows of a width."""
    return tuple([numbers[k * width:(k + 1) * width] for k in range(many)])


def _is_term(told, many):
    if not isinstance(told, tuple) or len(told) != 2:
        return False
    unknown, a = told
    return is_whole(unknown) and 0 <= unknown < many and is_number(a) and a != ZERO


def _check_task(many, musts, aim):
    check_some(many)
    for form in [part for _, part in musts] + [aim]:
        if not is_form(form, many):
            raise InvalidForm(form)
    for must in musts:
        if must[0] not in ("is", "most"):
            raise InvalidWish(must)


def _is_paper(told, many, musts):
    """True if told has one of the three forms, with the sizes for so many unknowns and musts."""
    if not isinstance(told, tuple) or len(told) < 2:
        return False
    if told[0] == "none":
        return len(told) == 2 and are_numbers(told[1], musts)
    if told[0] == "endless":
        return len(told) == 3 and are_numbers(told[1], many) and are_numbers(told[2], many)
    if told[0] != "least" or len(told) != 4 or not is_number(told[1]):
        return False
    return are_numbers(told[2], many) and are_numbers(told[3], musts)


def _slope(form, way):
    return total([times(a, way[unknown]) for unknown, a in form[1]])


def _worth(form, point):
    return plus(form[0], _slope(form, point))


def _is_kept(kind, a):
    return a == ZERO if kind == "is" else a[0] <= 0


def _keeps(musts, point):
    return all(_is_kept(kind, _worth(form, point)) for kind, form in musts)


def _falls(musts, aim, way):
    return _slope(aim, way)[0] < 0 and all(_is_kept(kind, _slope(form, way)) for kind, form in musts)


def _is_against(many, musts, multipliers):
    """True if the multipliers make of the musts' forms a constant above 0, which no point could keep."""
    summed = _summed(many, [form for _, form in musts], multipliers)
    return _are_fair(musts, multipliers) and below(ZERO, summed[0]) and _is_constant(summed)


def _holds(many, musts, aim, told):
    """True if the multipliers bound the aim by the told number at all points that keep the musts."""
    summed = _summed(many, [aim] + [form for _, form in musts], (ONE, *told[3]))
    return _are_fair(musts, told[3]) and summed[0] == told[1] and _is_constant(summed)


def _are_fair(musts, multipliers):
    return all(kind == "is" or a[0] >= 0 for (kind, _), a in zip(musts, multipliers))


def _summed(many, forms, multipliers):
    """The constant, and then the number of each unknown, in the sum of forms, each times its multiplier."""
    found = [dot([form[0] for form in forms], multipliers)] + [ZERO] * many
    for form, multiplier in zip(forms, multipliers):
        for unknown, a in form[1]:
            found[unknown + 1] = plus(found[unknown + 1], times(a, multiplier))
    return found


def _is_constant(summed):
    return all(a == ZERO for a in summed[1:])
