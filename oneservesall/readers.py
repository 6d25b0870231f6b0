"""Readers: what has a text as texts.py shows it."""

from oneservesall.errors import Unreadable
from oneservesall.numbers import is_number
from oneservesall.questions import MOST_DEEP, PARTS, is_question
from oneservesall.readings import is_asker
from oneservesall.releases import is_release
from oneservesall.schemes import is_scheme
from oneservesall.tables import is_name, is_schema, is_table
from oneservesall.texts import NOBODY, show_part
from oneservesall.trees import END, is_tree

MOST_DIGITS = 9
MOST_BLANKS = 12


def read_number(text):
    """The number of a text."""
    return _one_line(text, number_of(text.split("\n")[0]))


def read_question(schema, text):
    """The question of a schema that a text has."""
    return _one_line(text, _question_of(schema, text.split("\n")[0]))


def read_schema(text):
    """The schema of a text."""
    schema = tuple(_each([_column_of(line) for line in text.split("\n")]))
    _check_whole(is_schema(schema))
    return schema


def read_table(schema, text):
    """The table of a schema that a text has."""
    lines = text.split("\n")
    if lines[0] == NOBODY:
        return _one_line(text, ())
    table = tuple(_each([_wholes_of(line) for line in lines]))
    _check_whole(is_table(schema, table))
    return table


def read_scheme(text):
    """The scheme of a text."""
    scheme = tuple(_each([_numbers_of(line) for line in text.split("\n")]))
    _check_whole(is_scheme(scheme))
    return scheme


def read_release(schema, text):
    """The release of a schema that a text has."""
    first, *lines = text.split("\n")
    found = [_question_of(schema, first)]
    found.extend([_ends_of(line) for line in lines[:1]])
    found.extend([_numbers_of(line) for line in lines[1:]])
    question, *behind = _each(found)
    _check_whole(len(behind) > 0)
    low, high = behind[0]
    release = (question, low, high, tuple(behind[1:]))
    _check_whole(is_release(schema, release))
    return release


def read_tree(schema, text):
    """The tree of a schema that a text has."""
    lines = _each([_tree_line_of(schema, line) for line in text.split("\n")])
    tree, behind = _grown(lines, 0)
    _check_whole(lines[0][0] == 0 and behind == len(lines) and is_tree(schema, tree))
    return tree


def read_asker(text):
    """The asker of a text."""
    belief, *loss = _each([_numbers_of(line) for line in text.split("\n")])
    asker = (belief, tuple(loss))
    _check_whole(is_asker(asker, len(belief)))
    return asker


def whole_of(word):
    """The integer of a word, or None."""
    digits = word[1:] if word.startswith("-") else word
    if not 1 <= len(digits) <= MOST_DIGITS or not all("0" <= sign <= "9" for sign in digits):
        return None
    if digits.startswith("0") and word != "0":
        return None
    return int(word)


def number_of(word):
    """The number of a word, or None."""
    first, slash, second = word.partition("/")
    top = whole_of(first)
    bottom = whole_of(second) if slash else 1
    # What is no integer is None, and so makes no number.
    if not is_number((top, bottom)) or (slash and bottom == 1):
        return None
    return top, bottom


def _one_line(text, told):
    """What the first line of a text has, if there is no other one."""
    if told is None:
        raise Unreadable(1)
    if "\n" in text:
        raise Unreadable(2)
    return told


def _each(found):
    """What each line has, if none has nothing."""
    for k, told in enumerate(found):
        if told is None:
            raise Unreadable(k + 1)
    return found


def _check_whole(is_right):
    if not is_right:
        raise Unreadable(0)


def _wholes_of(line):
    found = tuple([whole_of(word) for word in line.split(" ")])
    return None if None in found else found


def _numbers_of(line):
    found = tuple([number_of(word) for word in line.split(" ")])
    return None if None in found else found


def _ends_of(line):
    found = _wholes_of(line)
    return found if found is not None and len(found) == 2 else None


def _column_of(line):
    name, _, values = line.partition(" : ")
    found = _wholes_of(values)
    return (name, found) if is_name(name) and found is not None else None


def _tree_line_of(schema, line):
    """(blanks ahead, ("end",) or ("ask", release)) of a tree's line, or None."""
    body = line.lstrip(" ")
    blanks = len(line) - len(body)
    if blanks > MOST_BLANKS or blanks & 1:
        return None
    if body == "end":
        return blanks, END
    parts = body.split(" : ")
    if len(parts) != 3 or not parts[0].startswith("ask "):
        return None
    ends = _ends_of(parts[0][len("ask "):])
    question = _question_of(schema, parts[1])
    rows = tuple([_numbers_of(row) for row in parts[2].split(", ")])
    if ends is None or question is None or None in rows:
        return None
    return blanks, ("ask", (question, *ends, rows))


def _grown(lines, at):
    """(tree, place of the line behind it) of the lines from a place on; as far as the blanks ahead of them fit."""
    blanks, head = lines[at]
    at += 1
    if head == END:
        return END, at
    branches = []
    while at < len(lines) and lines[at][0] == blanks + 2:
        branch, at = _grown(lines, at)
        branches.append(branch)
    return (*head, tuple(branches)), at


def _question_of(schema, line):
    told = _formed("question", _nested(line))
    return told if is_question(schema, told) and show_part(told) == line else None


def _nested(line):
    """The words of a line, those within brackets as a tuple; None if brackets do not close or are too deep."""
    # Blanks need no care here, as the question is shown once more and compared.
    stack = [[]]
    for word in line.replace("(", " ( ").replace(")", " ) ").split():
        if word == "(":
            stack.append([])
        elif word == ")" and len(stack) > 1:
            part = tuple(stack.pop())
            stack[-1].append(part)
        else:
            stack[-1].append(word)
        if len(stack) > MOST_DEEP + 1:
            return None
    return stack[0][0] if len(stack) == 1 and len(stack[0]) == 1 else None


def _formed(kind, told):
    """The term, test, question or number that nested words tell; what is none comes back as something that is none."""
    if not told or kind == "column":
        return told
    if isinstance(told, str):
        n = whole_of(told)
        return ("number", n) if kind == "term" else n
    kinds = PARTS.get((kind, told[0])) if isinstance(told[0], str) else None
    if kinds is None or len(told) != len(kinds) + 1:
        return None
    parts = [_formed(part_kind, part) for part_kind, part in zip(kinds, told[1:])]
    return (told[0], *parts)
