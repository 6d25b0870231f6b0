"""Orders: the first lines of what a console is told, word by word."""

from oneservesall.errors import Unorderly
from oneservesall.readers import number_of, whole_of
from oneservesall.tables import is_name

# What stands behind the head of each order; a question may have blanks, so it stands last.
WORDS = {
    "schema": ("name",),
    "ledger": ("name", "name", "number"),
    "ask": ("name", "number"),
    "drop": ("name",),
    "undo": (),
    "left": ("name",),
    "paid": ("name",),
    "history": ("name",),
    "stretch": ("name", "integer", "question"),
    "factor": ("name", "integer"),
    "names": (),
}
# The orders on whose next lines something stands.
LONG = ("schema", "ledger", "ask", "factor")


def order_of(text):
    """(head, what stands behind it, the lines behind the first) of a text that is an order."""
    line, newline, rest = text.partition("\n")
    head, told = _words_of(line)
    if told is None or (newline == "\n") != (head in LONG):
        raise Unorderly(text)
    return head, told, rest


def _words_of(line):
    """(head, what stands behind it) of an order's first line, or (head, None)."""
    head = line.partition(" ")[0]
    if head not in WORDS:
        return head, None
    kinds = WORDS[head]
    # The last word takes all that is left, so that nothing is told where there is too much.
    first, *words = line.split(" ", len(kinds))
    if first != head or len(words) != len(kinds):
        return head, None
    told = tuple([_worth(kind, word) for kind, word in zip(kinds, words)])
    return head, None if None in told else told


def _worth(kind, word):
    """What a word is worth as one of a kind, or None."""
    if kind == "name":
        return word if is_name(word) else None
    if kind == "number":
        return number_of(word)
    if kind == "integer":
        return whole_of(word)
    return word if word else None
