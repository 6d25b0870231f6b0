"""Texts put together as the document says, apart from the program, and things of each kind to be shown."""

from exact import random_asker, random_row, random_scheme, table
from test_questions import drawn_question, fitting
from test_trees import END, asking


def number_text(a):
    top, bottom = a
    return f"{top}" if bottom == 1 else f"{top}/{bottom}"


def part_text(told):
    if told[0] == "number":
        return f"{told[1]}"
    return "(" + " ".join(part_text(part) if isinstance(part, tuple) else f"{part}" for part in told) + ")"


def row_text(row):
    return " ".join(number_text(a) for a in row)


def schema_text(schema):
    return "\n".join(f"{name} : {' '.join(map(str, values))}" for name, values in schema)


def table_text(people):
    return "\n".join(" ".join(map(str, person)) for person in people) or "none"


def scheme_text(scheme):
    return "\n".join(row_text(row) for row in scheme)


def release_text(release):
    question, low, high, scheme = release
    return f"{part_text(question)}\n{low} {high}\n{scheme_text(scheme)}"


def tree_text(tree, deep=0):
    blanks = "  " * deep
    if tree == END:
        return f"{blanks}end"
    question, low, high, scheme = tree[1]
    line = f"{blanks}ask {low} {high} : {part_text(question)} : {', '.join(row_text(row) for row in scheme)}"
    return "\n".join([line, *[tree_text(branch, deep + 1) for branch in tree[2]]])


def asker_text(asker):
    belief, loss = asker
    return "\n".join(row_text(row) for row in (belief, *loss))


def random_schema(rng):
    names = rng.sample(["a", "b", "ab", "ba", "abcdefgh", "z", "zz", "none", "end", "ask", "all", "count", "value"],
                       rng.randint(1, 12))
    return tuple((name, tuple(sorted(rng.sample(range(-99, 100), rng.randint(1, 8))))) for name in sorted(names))


def random_table(rng, schema, many):
    return tuple(tuple(rng.choice(values) for _, values in schema) for _ in range(many))


def some_release(rng, schema, rows, answers):
    low = rng.randint(-30, 10)
    return fitting(rng, drawn_question, schema), low, low + rows - 1, random_scheme(rng, rows, answers, True)


def some_tree(rng, schema, deep):
    if deep == 0 or rng.random() < 0.2:
        return END
    release = some_release(rng, schema, rng.randint(1, 3), rng.randint(1, 3))
    return asking(release, *[some_tree(rng, schema, deep - 1) for _ in release[3][0]])


def random_askers(rng):
    return [random_asker(rng, n) for n in (0, 1, 2, 4, 9)]


def great_scheme(rng):
    """Two rows of 64 chances with bottoms of some digits."""
    return table([random_row(rng, 64), random_row(rng, 64, False)])
