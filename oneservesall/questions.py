"""Questions about tables: terms and tests of persons, and what is counted, summed or kept of them."""

from oneservesall.errors import InvalidQuestion, InvalidTerm, InvalidTest
from oneservesall.numbers import check_count, is_whole
from oneservesall.tables import check_person, check_schema, check_table, tables_of

# What stands behind the head of each kind of tuple.
PARTS = {
    ("term", "value"): ("column",),
    ("term", "number"): ("number",),
    ("term", "sum"): ("term", "term"),
    ("term", "less"): ("term", "term"),
    ("term", "times"): ("term", "term"),
    ("term", "least"): ("term", "term"),
    ("term", "most"): ("term", "term"),
    ("test", "all"): (),
    ("test", "is"): ("term", "term"),
    ("test", "below"): ("term", "term"),
    ("test", "both"): ("test", "test"),
    ("test", "either"): ("test", "test"),
    ("test", "not"): ("test",),
    ("question", "count"): ("test",),
    ("question", "sum"): ("test", "term", "end", "end"),
    ("question", "greatest"): ("test", "term", "end", "end"),
    ("question", "different"): ("test", "term"),
    ("question", "kept"): ("question", "end", "end"),
    ("question", "part"): ("question", "divisor"),
}
BOUNDS = {"number": (-99, 99), "end": (-999, 999), "divisor": (2, 99)}
MOST_TUPLES = 24
MOST_DEEP = 8


def is_term(schema, told):
    """True for a term of persons of a schema."""
    check_schema(schema)
    return _is_one(schema, "term", told)


def is_test(schema, told):
    """True for a test of persons of a schema."""
    check_schema(schema)
    return _is_one(schema, "test", told)


def is_question(schema, told):
    """True for a question about tables of a schema."""
    check_schema(schema)
    return _is_one(schema, "question", told)


def check_question(schema, told):
    """Raises InvalidQuestion for what is no question of a schema that is one."""
    if not _is_one(schema, "question", told):
        raise InvalidQuestion(told)


def worth(schema, term, person):
    """The number that a term has for a person."""
    check_schema(schema)
    if not _is_one(schema, "term", term):
        raise InvalidTerm(term)
    check_person(schema, person)
    return _worth(_names(schema), term, person)


def passes(schema, test, person):
    """True if a person passes a test."""
    check_schema(schema)
    if not _is_one(schema, "test", test):
        raise InvalidTest(test)
    check_person(schema, person)
    return _passes(_names(schema), test, person)


def answer(schema, question, table):
    """The answer of a question about a table."""
    check_schema(schema)
    check_question(schema, question)
    check_table(schema, table)
    return _answer(_names(schema), question, table)


def range_of(schema, question, n):
    """(least, greatest) of the answers about all tables of n persons."""
    check_schema(schema)
    check_question(schema, question)
    check_count(n)
    names = _names(schema)
    answers = [_answer(names, question, table) for table in tables_of(schema, n)]
    return min(answers), max(answers)


def kept_within(a, low, high):
    """A number kept within low to high: the end that it would pass, else itself."""
    return max(low, min(a, high))


def _names(schema):
    return [name for name, _ in schema]


def _is_one(schema, kind, told):
    return isinstance(told, tuple) and _fits(told) and _has_form(_names(schema), kind, told)


def _fits(told):
    """True if a tuple has not too many tuples in it and is not too deep."""
    many = 0
    # Level by level, as what is handed in may be deeper than a function can call itself.
    level = [told]
    for _ in range(MOST_DEEP):
        many += len(level)
        if many > MOST_TUPLES:
            return False
        level = [part for parent in level for part in parent if isinstance(part, tuple)]
    return len(level) == 0


def _has_form(names, kind, told):
    if not isinstance(told, tuple) or len(told) == 0 or not isinstance(told[0], str):
        return False
    kinds = PARTS.get((kind, told[0]))
    if kinds is None or len(told) != len(kinds) + 1:
        return False
    if not all(_is_part(names, part_kind, part) for part_kind, part in zip(kinds, told[1:])):
        return False
    return "end" not in kinds or told[-2] <= told[-1]


def _is_part(names, kind, told):
    if kind == "column":
        return isinstance(told, str) and told in names
    if kind in BOUNDS:
        low, high = BOUNDS[kind]
        return is_whole(told) and low <= told <= high
    return _has_form(names, kind, told)


def _worth(names, term, person):
    if term[0] == "value":
        return person[names.index(term[1])]
    if term[0] == "number":
        return term[1]
    a, b = _worth(names, term[1], person), _worth(names, term[2], person)
    if term[0] == "sum":
        return a + b
    if term[0] == "less":
        return a - b
    if term[0] == "times":
        return a * b
    return min(a, b) if term[0] == "least" else max(a, b)


def _passes(names, test, person):
    if test[0] == "all":
        return True
    if test[0] == "is":
        return _worth(names, test[1], person) == _worth(names, test[2], person)
    if test[0] == "below":
        return _worth(names, test[1], person) < _worth(names, test[2], person)
    if test[0] == "not":
        return not _passes(names, test[1], person)
    if test[0] == "both":
        return _passes(names, test[1], person) and _passes(names, test[2], person)
    return _passes(names, test[1], person) or _passes(names, test[2], person)


def _answer(names, question, table):
    if question[0] == "kept":
        return kept_within(_answer(names, question[1], table), question[2], question[3])
    if question[0] == "part":
        return _answer(names, question[1], table) // question[2]
    passing = [person for person in table if _passes(names, question[1], person)]
    if question[0] == "count":
        return len(passing)
    numbers = [_worth(names, question[2], person) for person in passing]
    if question[0] == "different":
        return len(set(numbers))
    low, high = question[3], question[4]
    kept = [kept_within(a, low, high) for a in numbers]
    return sum(kept) if question[0] == "sum" else max([low, *kept])
