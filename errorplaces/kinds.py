"""Tables of kinds."""

from errorplaces.errors import NoBases, NoKind, NoName, NoRows, TooMany
from errorplaces.plain import is_name, is_pair


class Kinds:
    """A table of kinds in an order, each one with bases that stand before it."""

    LIMIT = 7

    def __init__(self, **bases):
        self._take(list(bases.items()))

    @classmethod
    def of(cls, rows):
        """Return the table with a row (name, bases) for each kind."""
        if not _are_rows(rows):
            raise NoRows(rows)
        # A kind may be called self, so the rows cannot be passed as keywords.
        made = cls()
        made._take(rows)
        return made

    def _take(self, rows):
        if len(rows) > self.LIMIT:
            raise TooMany(self.LIMIT)
        _check_names(rows)
        _check_bases(rows)
        # The order of bases means nothing, so tables that differ in it alone are kept alike.
        self._rows = [(name, sorted(bases)) for name, bases in rows]
        self._above = _all_above(self._rows)

    def __eq__(self, other):
        return isinstance(other, Kinds) and self._rows == other._rows

    def __len__(self):
        return len(self._rows)

    def __repr__(self):
        return f"Kinds({', '.join(self.order)})"

    def __contains__(self, x):
        return isinstance(x, str) and x in self._above

    @property
    def order(self):
        """The list of the names, in order."""
        return [name for name, _ in self._rows]

    def below(self, name):
        """Return the ascending list of the kinds that are under a kind."""
        if name not in self:
            raise NoKind(name)
        return sorted([kind for kind in self.order if name in self._above[kind]])

    def above(self, name):
        """Return the ascending list of the kinds that a kind is under."""
        if name not in self:
            raise NoKind(name)
        return list(self._above[name])


def _are_rows(thing):
    return isinstance(thing, (list, tuple)) and all([is_pair(row) for row in thing])


def _check_names(rows):
    before = []
    for name, _ in rows:
        if not is_name(name) or name in before:
            raise NoName(name)
        before.append(name)


def _check_bases(rows):
    before = []
    for name, bases in rows:
        if not _are_bases(bases, before):
            raise NoBases(bases)
        before.append(name)


def _are_bases(thing, before):
    if not isinstance(thing, (list, tuple)):
        return False
    found = []
    for base in thing:
        if base not in before or base in found:
            return False
        found.append(base)
    return True


def _all_above(rows):
    above = {}
    for name, bases in rows:
        over = {name: True}
        for base in bases:
            for far in above[base]:
                over[far] = True
        above[name] = sorted(over)
    return above
