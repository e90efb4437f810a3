"""Recorders of calls, and scopes that record theirs."""

from errorplaces.plain import put_together, taken_apart
from errorplaces.scopes import Scopes


class Recorder:
    """Calls in the order in which they were kept."""

    def __init__(self):
        # Taken apart, so that each list of the calls is put together anew.
        self._calls = []

    def keep(self, word, *arguments):
        """Add a call (word, arguments)."""
        self._add_call((word, arguments))

    @property
    def calls(self):
        """The list of the calls."""
        return [put_together(nodes, spans) for nodes, spans in self._calls]

    def _add_call(self, call):
        self._calls.append(taken_apart(call))


class RecordedScopes(Recorder, Scopes):
    """Scopes that keep each call that changed them."""

    def __init__(self, kinds):
        Recorder.__init__(self)
        Scopes.__init__(self, kinds)

    def begin(self, message, *guards, parent=None):
        """Open a scope with the stack of these guards, and return its number."""
        number = super().begin(message, *guards, parent=parent)
        self._add_call(("begin", (message, guards, parent)))
        return number

    def set_stack(self, scope, *guards):
        """Change the stack of an open scope."""
        super().set_stack(scope, *guards)
        self._add_call(("set_stack", (scope, guards)))

    def raise_in(self, scope, *names):
        """Raise an error of each of these kinds in a scope, and return the list of their numbers."""
        numbers = super().raise_in(scope, *names)
        self._add_call(("raise_in", (scope, names)))
        return numbers

    def close(self, scope):
        """Close a scope, first those under it, and return its outcome, or None."""
        outcome = super().close(scope)
        self._add_call(("close", (scope,)))
        return outcome

    def replayed(self, *, stacks=None):
        """Return new recorded scopes that have got the same calls.

        The scopes whose numbers are in stacks have these stacks instead of their own, from beginning to end.
        """
        others = {} if stacks is None else stacks
        for scope in others:
            self._check_scope(scope)
        for stack in others.values():
            self._check_stack(stack)
        made = RecordedScopes(self._kinds)
        for word, arguments in self.calls:
            made._repeat(word, arguments, others)
        return made

    def _repeat(self, word, arguments, others):
        if word == "begin":
            message, stack, parent = arguments
            stack = others.get(len(self._scopes), stack)
            self.begin(message, *stack, parent=parent)
        elif word == "set_stack":
            scope, stack = arguments
            if scope not in others:
                self.set_stack(scope, *stack)
        elif word == "raise_in":
            scope, names = arguments
            self.raise_in(scope, *names)
        else:
            self.close(*arguments)
