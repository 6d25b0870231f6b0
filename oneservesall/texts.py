"""Texts: how numbers, questions, schemas, tables, schemes, releases, trees and askers are shown."""

# Python itself shows no integer of more than 4300 digits, so long ones are shown in parts of 18.
PART = 1000000000000000000
PART_DIGITS = 18
NOBODY = "none"


def show_number(a):
    """A number: its top, and its bottom if this is not 1."""
    top, bottom = a
    return _integer(top) if bottom == 1 else _integer(top) + "/" + _integer(bottom)


def show_part(told):
    """A term, a test or a question in brackets, but a term of a number as the integer."""
    if told[0] == "number":
        return str(told[1])
    return "(" + " ".join([_word(part) for part in told]) + ")"


def show_schema(schema):
    """A schema: a column on each line."""
    return "\n".join([name + " : " + _integers(values) for name, values in schema])


def show_table(table):
    """A table: a person on each line."""
    return "\n".join([_integers(person) for person in table]) if table else NOBODY


def show_scheme(scheme):
    """A scheme: a row on each line."""
    return "\n".join([_numbers(row) for row in scheme])


def show_release(release):
    """A release: its question, its ends, its scheme."""
    question, low, high, scheme = release
    return "\n".join([show_part(question), _integers((low, high)), show_scheme(scheme)])


def show_tree(tree):
    """A tree: a line for each ask and each end, branches further in than what they hang on."""
    return "\n".join(_lines_of(tree, ""))


def show_asker(asker):
    """An asker: the belief, then the rows of the loss."""
    belief, loss = asker
    return show_scheme((belief, *loss))


def _integer(n):
    if n < 0:
        return "-" + _integer(-n)
    found = ""
    while n >= PART:
        n, rest = divmod(n, PART)
        found = str(rest).zfill(PART_DIGITS) + found
    return str(n) + found


def _word(part):
    if isinstance(part, tuple):
        return show_part(part)
    return part if isinstance(part, str) else str(part)


def _integers(numbers):
    return " ".join([str(n) for n in numbers])


def _numbers(row):
    return " ".join([show_number(a) for a in row])


def _lines_of(tree, ahead):
    if tree[0] == "end":
        return [ahead + "end"]
    _, (question, low, high, scheme), branches = tree
    rows = ", ".join([_numbers(row) for row in scheme])
    found = [ahead + "ask " + _integers((low, high)) + " : " + show_part(question) + " : " + rows]
    for branch in branches:
        found.extend(_lines_of(branch, ahead + "  "))
    return found
