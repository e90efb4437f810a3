"""Scopes, whose errors gather and pass through their handlers when they are closed."""

from errorplaces.errors import Closed, NoError, NoKind, NoMessage, NoScope, NoStack, TooMany
from errorplaces.handlers import is_stack
from errorplaces.plain import is_name, is_number
from errorplaces.running import Numbers, drop_address, drop_path, run_stack
from errorplaces.templates import pieces
from errorplaces.trees import leaves


class Scope:
    """One scope. Its slot is the index of its entry in its parent, if it has one. An empty entry is None."""

    def __init__(self, message, stack, parent, slot):
        self.message = message
        self.stack = stack
        self.parent = parent
        self.slot = slot
        self.entries = []
        self.is_open = True
        self.result = None


class Scopes:
    """Scopes that are opened, perhaps under others, and closed, and the errors that are raised in them."""

    LIMIT = 60

    def __init__(self, kinds):
        self._kinds = kinds
        self._scopes = []
        self._errors = Numbers(1)
        # For each error that was not dropped: the scope that holds it, the slot of its entry
        # there, and the place in the tree that is this entry or has come out.
        self._held = {}
        self._dropped = {}

    def __len__(self):
        return len(self.open_scopes)

    def begin(self, message, *guards, parent=None):
        """Open a scope with the stack of these guards, and return its number."""
        if not is_name(message):
            raise NoMessage(message)
        self._check_stack(guards)
        above = None if parent is None else self._opened(parent)
        if len(self._scopes) >= self.LIMIT:
            raise TooMany(self.LIMIT)
        slot = None
        if above is not None:
            slot = len(above.entries)
            above.entries.append(None)
        self._scopes.append(Scope(message, guards, parent, slot))
        return len(self._scopes) - 1

    def set_stack(self, scope, *guards):
        """Change the stack of an open scope."""
        changed = self._opened(scope)
        self._check_stack(guards)
        changed.stack = guards

    def raise_in(self, scope, *names):
        """Raise an error of each of these kinds in a scope, and return the list of their numbers."""
        entries = self._opened(scope).entries
        for name in names:
            if name not in self._kinds:
                raise NoKind(name)
        numbers = []
        for name in names:
            leaf = self._errors.leaf(name)
            self._held[leaf[1]] = (scope, len(entries), ())
            entries.append(leaf)
            numbers.append(leaf[1])
        return numbers

    def close(self, scope):
        """Close a scope, first those under it, and return its outcome, or None."""
        self._opened(scope)
        return self._shut(scope)

    def collected(self, scope):
        """Return the list of the entries of an open scope that are not empty."""
        return _full(self._opened(scope).entries)

    @property
    def outcomes(self):
        """The list of (scope, outcome) for all outcomes that are out."""
        return [(n, scope.result) for n, scope in enumerate(self._scopes) if scope.result is not None]

    @property
    def open_scopes(self):
        """The list of the numbers of the open scopes."""
        return [n for n, scope in enumerate(self._scopes) if scope.is_open]

    def place_of(self, number):
        """Return where an error is now."""
        self._check_error(number)
        if number in self._dropped:
            return self._dropped[number]
        n, slot, place = self._held[number]
        scope = self._scopes[n]
        if not scope.is_open:
            return "out", n, place
        return "waiting", n, (len(_full(scope.entries[:slot])), *place)

    def destiny(self, number):
        """Return what has become of an error, or what becomes of it when all scopes are closed."""
        self._check_error(number)
        if number in self._dropped:
            return self._dropped[number]
        return self._fate(self.kind_of(number), self._held[number][0])

    def kind_of(self, number):
        """Return the kind of an error."""
        self._check_error(number)
        return self._errors.raised[number - 1]

    def _check_stack(self, guards):
        if not is_stack(self._kinds, guards):
            raise NoStack(guards)

    def _check_error(self, number):
        if not is_number(number) or not 1 <= number <= len(self._errors.raised):
            raise NoError(number)

    def _check_scope(self, number):
        if not is_number(number) or number >= len(self._scopes):
            raise NoScope(number)

    def _opened(self, number):
        self._check_scope(number)
        if not self._scopes[number].is_open:
            raise Closed(number)
        return self._scopes[number]

    def _fate(self, kind, n):
        scope = self._scopes[n]
        if not scope.is_open:
            return "out", n
        address = drop_address(self._kinds, scope.stack, kind)
        if address is not None:
            return "dropped", n, address
        if scope.parent is None:
            return "out", n
        return self._fate(kind, scope.parent)

    def _shut(self, n):
        under = [k for k in self.open_scopes if self._scopes[k].parent == n]
        for k in under:
            self._shut(k)
        scope = self._scopes[n]
        scope.is_open = False
        entries = _full(scope.entries)
        if not entries:
            return None
        outcome = self._run(n, (scope.message, tuple(entries)))
        if outcome is not None:
            self._hand_over(n, outcome)
        return outcome

    def _run(self, n, tree):
        stack = self._scopes[n].stack
        stations = run_stack(self._kinds, stack, tree, self._errors)
        for g in range(len(stations) - 1):
            for kind, number in pieces(stations[g]):
                path = drop_path(self._kinds, stack[g], kind)
                if path is not None:
                    self._dropped[number] = ("dropped", n, (g, *path))
        return stations[-1]

    def _hand_over(self, n, outcome):
        scope = self._scopes[n]
        holder = n
        if scope.parent is None:
            scope.result = outcome
        else:
            holder = scope.parent
            self._scopes[holder].entries[scope.slot] = outcome
        for place, (_, number) in leaves(outcome):
            self._held[number] = (holder, scope.slot, place)


def _full(entries):
    return [entry for entry in entries if entry is not None]
