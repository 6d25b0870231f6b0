"""Boards: sums of variables over a choice of other ones, and the steps from choice to choice.

The variables are unknowns, 0 to many - 1, then a room for each must: what its
form lacks to 0. The rooms of "most" musts are from 0 on, those of "is" musts 0.
A board has a row for each of its heads, a variable or the aim, over the
variables of its columns, which are taken to be 0.
"""

from math import gcd, lcm

from oneservesall.numbers import ONE, ZERO, number, times, total

LIFT = -1
AIM = -2
# A row is [bottom, constant, nudge, coefficients]: the bottom times its head is the rest.
# A nudge counts less than any constant, and keeps steps from moving nothing.
CONSTANT = 1
NUDGE = 2
FIRST = 3


class Board:
    """The rows of musts (kind, form) and of an aim, at first over the unknowns."""

    def __init__(self, many, musts, aim):
        self.many = many
        self.kinds = [kind for kind, _ in musts]
        self.columns = list(range(many))
        self.heads = [many + k for k in range(len(musts))] + [AIM]
        self.rows = [_integers(form, many, -1) for _, form in musts] + [_integers(aim, many, 1)]
        self.aside = []

    def row_of(self, head):
        """The row of a head."""
        return self.rows[self.heads.index(head)]

    def step(self, r, at):
        """Swaps the head of row r with the variable of the column at a place."""
        swapped = _solved(self.rows[r], at)
        self.rows = [swapped if k == r else _put_in(row, swapped, at) for k, row in enumerate(self.rows)]
        self.heads[r], self.columns[at - FIRST] = self.columns[at - FIRST], self.heads[r]

    def aim_multipliers(self):
        """What the aim has of each must's room."""
        return self._multipliers(AIM)

    def least(self):
        """The aim where all columns are 0."""
        row = self.row_of(AIM)
        return number(row[CONSTANT], row[0])

    def point(self):
        """The unknowns where all columns are 0."""
        return self._unknowns({head: number(row[CONSTANT], row[0]) for head, row in zip(self.heads, self.rows)}, 1)

    def settle_equals(self):
        """Makes columns of the rooms of "is" musts; returns multipliers if these are against each other, else None."""
        for k, kind in enumerate(self.kinds):
            if kind != "is":
                continue
            head = self.many + k
            row = self.row_of(head)
            places = [FIRST + c for c, name in enumerate(self.columns) if name < self.many and row[FIRST + c] != 0]
            if places:
                self.step(self.heads.index(head), places[0])
            elif row[CONSTANT] != 0:
                return self._against(k)
            else:
                r = self.heads.index(head)
                del self.rows[r], self.heads[r]
        return None

    def find_unknowns(self):
        """Makes columns of rooms instead of unknowns, and puts the unknowns aside, as no step hangs on them."""
        for c, name in enumerate(list(self.columns)):
            places = [r for r, head in enumerate(self.heads) if head >= self.many and self.rows[r][FIRST + c] != 0]
            if name < self.many and places:
                # A short row is put into the other ones with the least growth.
                self.step(min([(_length(self.rows[r]), r) for r in places])[1], FIRST + c)
        base = list(self.columns)
        found = [r for r, head in enumerate(self.heads) if 0 <= head < self.many]
        self.aside = [(self.heads[r], base, self.rows[r]) for r in found]
        self.rows = [row for r, row in enumerate(self.rows) if r not in found]
        self.heads = [head for r, head in enumerate(self.heads) if r not in found]

    def lift_off(self):
        """Steps to where all rooms are from 0 on; returns multipliers if that can not be, else None."""
        self._nudge_rooms()
        lows = [(self.rows[r][CONSTANT:FIRST], r) for r in range(len(self.rows)) if self._is_low(r)]
        if not lows:
            return None
        # One more variable lifts the rooms below 0, and is then made as small as can be.
        self.rows = [row + [int(self._is_low(r))] for r, row in enumerate(self.rows)]
        self.columns.append(LIFT)
        self.step(min(lows)[1], FIRST + self.columns.index(LIFT))
        self._sink(LIFT)
        if LIFT in self.heads:
            return self._multipliers(LIFT)
        c = self.columns.index(LIFT)
        self.rows = [row[:FIRST + c] + row[FIRST + c + 1:] for row in self.rows]
        del self.columns[c]
        return None

    def way_down(self):
        """Steps to the least of the aim; returns None, or the unknowns along a way on which it falls without end."""
        row = self.row_of(AIM)
        for c, name in enumerate(self.columns):
            # An unknown that is left in the columns is one that no room hangs on, and may go either way.
            if name < self.many and row[FIRST + c] != 0:
                return self._unknowns({name: (-1, 1) if row[FIRST + c] > 0 else ONE}, 0)
        at = self._sink(AIM)
        if at is None:
            return None
        way = {head: number(row[at], row[0]) for head, row in zip(self.heads, self.rows)}
        way[self.columns[at - FIRST]] = ONE
        return self._unknowns(way, 0)

    def _multipliers(self, head):
        """What the row of a head has of each must's room."""
        row = self.row_of(head)
        found = dict(zip(self.columns, row[FIRST:]))
        return tuple([number(found.get(self.many + k, 0), row[0]) for k in range(len(self.kinds))])

    def _against(self, k):
        """The multipliers with which the row of the room of must k shows that this room can not be 0."""
        head = self.many + k
        found = list(self._multipliers(head))
        found[k] = (-1, 1)
        sign = ONE if self.row_of(head)[CONSTANT] > 0 else (-1, 1)
        return tuple([times(sign, a) for a in found])

    def _nudge_rooms(self):
        for r, head in enumerate(self.heads):
            if head != AIM:
                # Squares, so that few sums of nudges come out alike.
                self.rows[r][NUDGE] = (head + 1) * (head + 1)

    def _is_low(self, r):
        return self.heads[r] != AIM and self.rows[r][CONSTANT] < 0

    def _sink(self, goal):
        """Steps until the row of a head falls no more, or the head has come to 0 and is a column.

        Returns None, or the place of a column that lets it fall without end.
        """
        stuck = 0
        while goal in self.heads:
            places = self._falling(self.row_of(goal))
            if not places:
                return None
            # The greatest fall is the quickest, but could come round and round
            # where nothing moves at all; the first of the names never does.
            if stuck > len(self.rows) + len(self.columns):
                places = [min([(self.columns[at - FIRST], at) for at in places])[1]]
            at, r = self._best_step(self.row_of(goal), places)
            if r is None:
                return at
            stuck = stuck + 1 if self.rows[r][CONSTANT:FIRST] == [0, 0] else 0
            self.step(r, at)
        return None

    def _falling(self, goal):
        """The places of the rooms in the columns that let a row fall if they rise."""
        return [FIRST + c for c, name in enumerate(self.columns) if goal[FIRST + c] < 0 and self._may_rise(name)]

    def _may_rise(self, name):
        return name >= self.many and self.kinds[name - self.many] == "most"

    def _best_step(self, goal, places):
        """(place, row) of the greatest fall of a row, of no fall the steepest; the row None of one without end."""
        found = None
        for at in places:
            r = self._limiting(at)
            if r is None:
                return at, None
            row = self.rows[r]
            fall = (goal[at] * row[CONSTANT], goal[at] * row[NUDGE], row[at], goal[at])
            if found is None or _is_further(fall, found[0]):
                found = (fall, at, r)
        return found[1], found[2]

    def _limiting(self, at):
        """The row that comes to 0 first if the column at a place rises, or None; of several the first head."""
        found = None
        for r, row in enumerate(self.rows):
            if self.heads[r] != AIM and row[at] < 0 and (found is None or self._is_sooner(r, found, at)):
                found = r
        return found

    def _is_sooner(self, r, other, at):
        row, beside = self.rows[r], self.rows[other]
        # Both coefficients are below 0, so the sign is that of the limits' difference.
        ahead = row[CONSTANT] * beside[at] - beside[CONSTANT] * row[at]
        if ahead == 0:
            ahead = row[NUDGE] * beside[at] - beside[NUDGE] * row[at]
        return ahead > 0 or (ahead == 0 and self.heads[r] < self.heads[other])

    def _unknowns(self, values, share):
        """The unknowns for values of variables, else 0, with a share, 1 or 0, of the constants."""
        found = [values.get(name, ZERO) for name in range(self.many)]
        for name, base, row in self.aside:
            parts = [times((a, 1), values.get(x, ZERO)) for x, a in zip(base, row[FIRST:]) if a != 0]
            found[name] = times(total([(share * row[CONSTANT], 1), *parts]), (1, row[0]))
        return tuple(found)


def _integers(form, many, sign):
    """The row of a form, or for the sign -1 of its room, over the unknowns."""
    bottom = form[0][1]
    for _, a in form[1]:
        bottom = lcm(bottom, a[1])
    row = [bottom, sign * form[0][0] * (bottom // form[0][1]), 0] + [0] * many
    for unknown, a in form[1]:
        row[FIRST + unknown] = sign * a[0] * (bottom // a[1])
    return _shortened(row)


def _shortened(row):
    shared = row[0]
    for a in row:
        # Most rows of small numbers share nothing, which shows early.
        if shared == 1:
            return row
        shared = gcd(shared, a)
    return [a // shared for a in row]


def _length(row):
    return len([a for a in row if a != 0])


def _solved(row, at):
    """The row, written for the variable of the column at a place."""
    sign = 1 if row[at] > 0 else -1
    found = [-sign * a for a in row]
    found[0] = sign * row[at]
    found[at] = sign * row[0]
    return found


def _put_in(row, solved, at):
    """The row with what was solved put in for the variable of the column at a place."""
    if row[at] == 0:
        return row
    shared = gcd(row[at], solved[0])
    coefficient, bottom = row[at] // shared, solved[0] // shared
    found = [bottom * a + coefficient * b for a, b in zip(row, solved)]
    found[0] = bottom * row[0]
    found[at] = coefficient * solved[at]
    return _shortened(found)


def _is_further(fall, other):
    """True if one (constant, nudge, bottom, slope) falls further than another one, or as far and more steeply."""
    ahead = fall[0] * other[2] - other[0] * fall[2]
    if ahead == 0:
        ahead = fall[1] * other[2] - other[1] * fall[2]
    return ahead > 0 or (ahead == 0 and fall[3] < other[3])
