"""Consoles: named schemas and ledgers, by calls or by orders, with each change to be taken back."""

from oneservesall.errors import InvalidName, NothingToUndo, UnknownName, WrongKind
from oneservesall.ledgers import Ledger
from oneservesall.orders import order_of
from oneservesall.readers import read_question, read_release, read_schema, read_table
from oneservesall.releases import release_factor
from oneservesall.stretches import stretch
from oneservesall.tables import check_schema, is_name
from oneservesall.texts import NOBODY, show_number

DONE = "done"


class Console:
    """Schemas and ledgers, one name for one of them."""

    def __init__(self):
        self._things = {}
        # What each change that is not taken back put in whose place.
        self._changes = []

    def keep_schema(self, name, schema):
        """Keeps a schema under a name."""
        _check_name(name)
        check_schema(schema)
        self._put(name, schema)

    def keep_ledger(self, name, schema_name, table, limit):
        """Keeps a new ledger of a table of a kept schema under a name."""
        _check_name(name)
        self._put(name, Ledger(self._schema_of(schema_name), table, limit))

    def drop(self, name):
        """Keeps nothing under a name any more."""
        self._thing_of(name)
        self._put(name, None)

    def names(self):
        """The ascending list of (name, "schema" or "ledger")."""
        return sorted([(name, _kind(thing)) for name, thing in self._things.items()])

    def ledger(self, name):
        """A twin of a kept ledger."""
        return self._ledger_of(name).twin()

    def undo(self):
        """Takes back the last change that is not taken back."""
        if not self._changes:
            raise NothingToUndo(0)
        name, thing = self._changes.pop()
        self._place(name, thing)

    def order(self, text):
        """Does what a text says, and returns the answer."""
        head, told, rest = order_of(text)
        if head in ("schema", "ledger", "drop", "undo"):
            self._change(head, told, rest)
            return DONE
        if head == "names":
            return "\n".join([name + " " + kind for name, kind in self.names()]) or NOBODY
        if head == "ask":
            return str(self._ask(told[0], told[1], rest))
        if head in ("stretch", "factor"):
            return self._measured(head, told, rest)
        return _told_by_ledger(head, self._ledger_of(told[0]))

    def _change(self, head, told, rest):
        if head == "schema":
            self.keep_schema(told[0], read_schema(rest))
        elif head == "ledger":
            name, schema_name, limit = told
            self.keep_ledger(name, schema_name, read_table(self._schema_of(schema_name), rest), limit)
        elif head == "drop":
            self.drop(told[0])
        else:
            self.undo()

    def _ask(self, name, lot, text):
        # Kept ledgers are never changed, so that what was in their place can be put back.
        twin = self.ledger(name)
        output = twin.ask(read_release(twin.schema, text), lot)
        self._put(name, twin)
        return output

    def _measured(self, head, told, rest):
        """What one person moves, of a question or of a release's outputs."""
        schema = self._schema_of(told[0])
        if head == "stretch":
            return str(stretch(schema, read_question(schema, told[2]), told[1])[0])
        factor = release_factor(schema, read_release(schema, rest), told[1])[0]
        return NOBODY if factor is None else show_number(factor)

    def _thing_of(self, name):
        if name not in self._things:
            raise UnknownName(name)
        return self._things[name]

    def _schema_of(self, name):
        thing = self._thing_of(name)
        if _kind(thing) != "schema":
            raise WrongKind(name)
        return thing

    def _ledger_of(self, name):
        thing = self._thing_of(name)
        if _kind(thing) != "ledger":
            raise WrongKind(name)
        return thing

    def _put(self, name, thing):
        """Puts a thing, or None for none, in the place of a name, so that it can be taken back."""
        self._changes.append((name, self._things.get(name)))
        self._place(name, thing)

    def _place(self, name, thing):
        if thing is None:
            del self._things[name]
        else:
            self._things[name] = thing


def _check_name(name):
    if not is_name(name):
        raise InvalidName(name)


def _kind(thing):
    return "ledger" if isinstance(thing, Ledger) else "schema"


def _told_by_ledger(head, ledger):
    """What a ledger has left, has paid or has told."""
    if head == "history":
        return " ".join([str(output) for _, output in ledger.history()]) or NOBODY
    return show_number(ledger.left if head == "left" else ledger.paid)
