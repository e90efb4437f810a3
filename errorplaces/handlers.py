"""Forms, and stacks of handlers."""

from errorplaces.errors import NoStack
from errorplaces.plain import is_group, is_pair


def is_form(kinds, thing):
    """Return whether any value is a form of these kinds."""
    pending = [thing]
    stars = 0
    while pending:
        node = pending.pop()
        if is_group(node):
            pending.extend(node[1])
        elif node == "*":
            stars += 1
        elif node not in kinds:
            return False
    return stars <= 1


def is_stack(kinds, thing):
    """Return whether any value is a stack of these kinds."""
    if not isinstance(thing, tuple):
        return False
    pending = list(thing)
    while pending:
        guard = pending.pop()
        if not isinstance(guard, tuple):
            return False
        for clause in guard:
            if not is_pair(clause) or not _are_kinds(kinds, clause[0]):
                return False
            if _passes(clause):
                pending.append(clause[1][1])
            elif not _is_plain_action(kinds, clause[1]):
                return False
    return True


def addresses(kinds, stack):
    """Return the ascending list of the addresses of all clauses."""
    if not is_stack(kinds, stack):
        raise NoStack(stack)
    found = []
    pending = [((g,), guard) for g, guard in enumerate(stack)]
    while pending:
        place, guard = pending.pop()
        for c, clause in enumerate(guard):
            address = (*place, c)
            found.append(address)
            if _passes(clause):
                pending.append((address, clause[1][1]))
    return sorted(found)


def _are_kinds(kinds, thing):
    return isinstance(thing, tuple) and len(thing) > 0 and all([name in kinds for name in thing])


def _passes(clause):
    return is_pair(clause[1]) and clause[1][0] == "pass"


def _is_plain_action(kinds, thing):
    if not is_pair(thing):
        return thing in ("drop", "back")
    word, what = thing
    if word == "keep":
        return _are_kinds(kinds, what)
    return word == "raise" and is_form(kinds, what)
