"""Questions gone through person by person, by standings that no sequence of the persons changes."""

from oneservesall.numbers import check_count
from oneservesall.questions import check_question, kept_within, passes, worth
from oneservesall.tables import check_person, check_schema, check_table, persons


def begun(schema, question):
    """The standing ahead of all persons."""
    _check(schema, question)
    return standing_ahead(question)


def stepped(schema, question, standing, person):
    """The standing that a person makes of one."""
    _check(schema, question)
    check_person(schema, person)
    return joined(question, standing, share_of(schema, question, person))


def standing(schema, question, table):
    """The standing behind all persons of a table."""
    _check(schema, question)
    check_table(schema, table)
    found = standing_ahead(question)
    for person in table:
        found = joined(question, found, share_of(schema, question, person))
    return found


def told_by(schema, question, standing):
    """The answer that a standing behind all persons tells."""
    _check(schema, question)
    return answer_told(question, standing)


def standings(schema, question, n):
    """The ascending list of the standings to which tables of n persons lead."""
    _check(schema, question)
    check_count(n)
    shares = [share_of(schema, question, person) for person in persons(schema)]
    found = {standing_ahead(question): True}
    for _ in range(n):
        found = {joined(question, ahead, share): True for ahead in found for share in shares}
    return sorted(found)


def alike(schema, question):
    """The ascending list of the ascending lists of the persons that step every standing alike."""
    _check(schema, question)
    found = {}
    # Persons with unlike shares part already at the standing ahead of all.
    for person in persons(schema):
        found.setdefault(share_of(schema, question, person), []).append(person)
    return sorted(found.values())


def standing_ahead(question):
    """The standing ahead of all persons, of what is a question."""
    inner = _inner(question)
    if inner[0] == "different":
        return ()
    return inner[3] if inner[0] == "greatest" else 0


def share_of(schema, question, person):
    """What a person adds to each standing of a question: the standing behind this one alone."""
    inner = _inner(question)
    if not passes(schema, inner[1], person):
        return standing_ahead(inner)
    if inner[0] == "count":
        return 1
    a = worth(schema, inner[2], person)
    return (a,) if inner[0] == "different" else kept_within(a, inner[3], inner[4])


def joined(question, standing, share):
    """The standing that a person's share makes of one."""
    head = _inner(question)[0]
    if head == "different":
        return tuple(sorted(set(standing + share)))
    return max(standing, share) if head == "greatest" else standing + share


def answer_told(question, standing):
    """The answer that a standing tells, of what is a question."""
    if question[0] == "kept":
        return kept_within(answer_told(question[1], standing), question[2], question[3])
    if question[0] == "part":
        return answer_told(question[1], standing) // question[2]
    return len(standing) if question[0] == "different" else standing


def _check(schema, question):
    check_schema(schema)
    check_question(schema, question)


def _inner(question):
    """The question within all of "kept" and "part"."""
    while question[0] in ("kept", "part"):
        question = question[1]
    return question
