"""Trees of releases: which one comes next hangs on what came out."""

from oneservesall.errors import InvalidRelease, InvalidTree
from oneservesall.numbers import ONE, check_some, greatest, times
from oneservesall.releases import has_scheme, is_release, kept_answer, kept_question, release_factor, row_at
from oneservesall.tables import check_schema, check_table
from oneservesall.walks import answers_met, first_table, steepest

END = ("end",)
# Behind how many trees that were found right others are compared with these, and with how many of the last ones.
PLENTY = 256
RECENT = 64


def is_tree(schema, told):
    """True for ("end",) or ("ask", release, branches), a branch for each output."""
    check_schema(schema)
    return _is_right(schema, told, [])


def row(releases):
    """The tree that asks releases one behind the other."""
    for release in releases:
        if not has_scheme(release):
            raise InvalidRelease(release)
    found = END
    for release in releases[::-1]:
        found = ("ask", release, (found,) * len(release[3][0]))
    return found


def ways(tree):
    """The ascending list of a tree's outputs; questions and ends are not looked at."""
    if not _is_right(None, tree, []):
        raise InvalidTree(tree)
    return _ways(tree)


def tree_chances(schema, tree, table):
    """The ascending tuple of (output, chance) of all of a tree's outputs at a table, chances 0 too."""
    check_schema(schema)
    _check_tree(schema, tree)
    check_table(schema, table)
    asked = _releases(tree)
    answers = tuple([kept_answer(schema, release, table) for release in asked])
    return tuple(zip(_ways(tree), _chances(tree, asked, answers)))


def tree_factor(schema, tree, n):
    """(factor, one, other, output): the least factor for tables of n persons, and where it is reached.

    The factor is None if there is none: the output has a chance at the one neighbour alone.
    """
    check_schema(schema)
    _check_tree(schema, tree)
    check_some(n)
    asked = _releases(tree)
    met = answers_met(schema, tuple([kept_question(release) for release in asked]), n)
    if not met:
        return ONE, first_table(schema, n), first_table(schema, n), _ways(tree)[0]
    rows = {answers: _chances(tree, asked, answers) for ends in met for answers in ends}
    factor, one, other, place = steepest(met, rows)
    return factor, one, other, _ways(tree)[place]


def way_bound(schema, tree, n):
    """The greatest product of the least factors of the releases along a way, None if one has none."""
    check_schema(schema)
    _check_tree(schema, tree)
    check_some(n)
    asked = _releases(tree)
    factors = [release_factor(schema, release, n)[0] for release in asked]
    return None if None in factors else _bound(tree, asked, factors)


def _is_right(schema, told, known):
    """True for a tree of a schema, or of any if it is None; known are trees that were found right, and grow."""
    # Without a comparison a row of many releases, whose branches are alike, would take without end.
    # What is known is right, so that no comparison goes deeper than a tree.
    if len(known) > PLENTY and told in known[-RECENT:]:
        return True
    if told != END:
        if not _is_ask(schema, told):
            return False
        for branch in told[2]:
            if not _is_right(schema, branch, known):
                return False
    known.append(told)
    return True


def _is_ask(schema, told):
    """True for ("ask", release, branches) with as many branches as outputs, whatever they are."""
    if not isinstance(told, tuple) or len(told) != 3 or told[0] != "ask":
        return False
    _, release, branches = told
    if not has_scheme(release) or not isinstance(branches, tuple) or len(branches) != len(release[3][0]):
        return False
    return schema is None or is_release(schema, release)


def _check_tree(schema, told):
    if not _is_right(schema, told, []):
        raise InvalidTree(told)


def _unlike(branches):
    """The list of branches, each once."""
    found = []
    for branch in branches:
        if branch not in found:
            found.append(branch)
    return found


def _releases(tree):
    """The list of the releases of a tree, each once."""
    found = []
    _gather(tree, found)
    return found


def _gather(tree, found):
    if tree == END:
        return
    if tree[1] not in found:
        found.append(tree[1])
    for branch in _unlike(tree[2]):
        _gather(branch, found)


def _ways(tree):
    if tree == END:
        return [()]
    return [(output, *way) for output, branch in enumerate(tree[2]) for way in _ways(branch)]


def _chances(tree, asked, answers):
    """The chances of a tree's outputs, in the sequence of its ways, by the kept answers of the releases asked."""
    if tree == END:
        return [ONE]
    _, release, branches = tree
    shares = row_at(release, answers[asked.index(release)])
    return [times(a, b) for a, branch in zip(shares, branches) for b in _chances(branch, asked, answers)]


def _bound(tree, asked, factors):
    """The greatest product, along a way, of the factors of the releases asked."""
    if tree == END:
        return ONE
    _, release, branches = tree
    return times(factors[asked.index(release)], greatest([_bound(b, asked, factors) for b in _unlike(branches)]))
