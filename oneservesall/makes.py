"""Whether a scheme can be made of another one by a mixed reading, or whom the other one serves worse."""

from oneservesall.errors import InvalidPaper
from oneservesall.numbers import ZERO, are_numbers, below, dot, least, minus, total
from oneservesall.schemes import check_schemes, is_scheme, read_by, size
from oneservesall.sums import form_of, in_rows, least_sum, musts_of_scheme


def made_of(one, other):
    """("made", mixed reading of the one) if the other scheme can be made of it, else ("parted", table)."""
    check_schemes(one, other)
    rows, answers = size(one)
    told_answers = size(other)[1]
    told = least_sum(answers * told_answers, _musts(one, other), form_of(ZERO, []))
    if told[0] == "least":
        return "made", in_rows(told[2], answers, told_answers)
    # The last musts are those that the made chances are the other one's, so their
    # multipliers are what shows that they can not be: an asker who tells them apart.
    return "parted", in_rows(told[1][-rows * told_answers:], rows, told_answers)


def is_made(one, other, told):
    """True if ("made", mixed) makes the other scheme, or ("parted", table) is one whom the one serves worse."""
    check_schemes(one, other)
    if not _is_paper(one, other, told):
        raise InvalidPaper(told)
    if told[0] == "made":
        return read_by(one, told[1]) == other
    return below(_worth(other, told[1]), _least_worth(one, told[1]))


def as_good(one, other):
    """"both", "one", "other" or "neither": of which scheme the other one can be made."""
    makes = made_of(one, other)[0] == "made"
    is_made_too = made_of(other, one)[0] == "made"
    if makes and is_made_too:
        return "both"
    if makes:
        return "one"
    return "other" if is_made_too else "neither"


def _is_paper(one, other, told):
    """True for ("made", mixed) or ("parted", table) with the sizes of two schemes."""
    if not isinstance(told, tuple) or len(told) != 2:
        return False
    word, table = told
    answers = size(other)[1]
    if word == "made":
        return is_scheme(table) and size(table) == (size(one)[1], answers)
    if word != "parted" or not isinstance(table, tuple) or len(table) != len(one):
        return False
    return all(are_numbers(row, answers) for row in table)


def _musts(one, other):
    """The musts of a mixed reading, row by row, and that what it makes of the one is the other, i by i."""
    answers, told_answers = size(one)[1], size(other)[1]
    found = musts_of_scheme(answers, told_answers)
    for row, wanted in zip(one, other):
        for j, a in enumerate(wanted):
            terms = [(r * told_answers + j, b) for r, b in enumerate(row)]
            found.append(("is", form_of(minus(ZERO, a), terms)))
    return found


def _worth(scheme, table):
    """What a scheme costs the asker of a table, answers told as they are."""
    return total([dot(row, numbers) for row, numbers in zip(scheme, table)])


def _least_worth(scheme, table):
    """What a scheme costs the asker of a table whose reading is the best one."""
    told = list(zip(*table))
    return total([least([dot(column, numbers) for numbers in told]) for column in zip(*scheme)])
