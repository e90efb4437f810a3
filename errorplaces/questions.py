"""Questions about tables and stacks: what tells them apart, and which clauses do what for any tree."""

from errorplaces.errors import NoStack, Unlike
from errorplaces.handlers import addresses, is_stack
from errorplaces.plain import same
from errorplaces.running import Numbers, drop_address, run_stack, taker
from errorplaces.tables import Table
from errorplaces.templates import is_hole, kinds_in, pieces


def telling(one, other):
    """Return a tree with the fewest leaves for which two tables have different outcomes, or None."""
    if one.kinds != other.kinds:
        raise Unlike()
    # The rows for the fewest kinds come first, and a tree needs no more than a leaf for each kind.
    for names, is_bare, row in one.rows():
        if not same(row, other.row(names, bare=is_bare)):
            return _telling_tree(names, is_bare)
    return None


def drops(kinds, stack):
    """Return a dict with the address of the clause that drops the leaves of each kind, None if they come out."""
    _check(kinds, stack)
    return {kind: drop_address(kinds, stack, kind) for kind in kinds.order}


def idle(kinds, stack):
    """Return the ascending list of the addresses of the clauses that fire for no tree."""
    found = addresses(kinds, stack)
    firing = _firing(kinds, stack)
    return [address for address in found if address not in firing]


def spare(kinds, stack):
    """Return the ascending list of the addresses of the clauses each of which alone can be left out."""
    found = addresses(kinds, stack)
    table = Table(kinds, *stack)
    return [address for address in found if _is_table(kinds, _stack_without(stack, address), table)]


def added(kinds, stack):
    """Return the ascending list of the kinds of which the outcome for some tree has a new leaf."""
    _check(kinds, stack)
    found = {}
    table = Table(kinds, *stack)
    for _, _, row in table.rows():
        for kind in _new_kinds(row):
            found[kind] = True
    return sorted(found)


def _check(kinds, stack):
    if not is_stack(kinds, stack):
        raise NoStack(stack)


def _telling_tree(names, is_bare):
    # New leaves have the number 0, so each leaf with the number 1 shows where the hole was that it fills.
    if is_bare:
        return names[0], 1
    return "tree", tuple([(name, 1) for name in names])


def _firing(kinds, stack):
    """Return a dict of True for the address of each clause that fires for some tree.

    What a leaf meets does not depend on the other leaves. So each clause that fires for some tree
    fires for a leaf of that tree alone.
    """
    firing = {}
    for kind in kinds.order:
        stations = run_stack(kinds, stack, ("*", (kind,)), Numbers(0))
        for g in range(len(stations) - 1):
            for arriving in kinds_in(stations[g]):
                path, _ = taker(kinds, stack[g], arriving)
                for many in range(len(path)):
                    address = (g, *path[:many + 1])
                    firing[address] = True
    return firing


def _is_table(kinds, stack, table):
    return Table(kinds, *stack) == table


def _stack_without(stack, address):
    g, *path = address
    return (*stack[:g], _guard_without(stack[g], path), *stack[g + 1:])


def _guard_without(guard, path):
    """Return a guard without the clause to which this path of indices leads."""
    c, *further = path
    if not further:
        return guard[:c] + guard[c + 1:]
    names, (word, inner) = guard[c]
    return (*guard[:c], (names, (word, _guard_without(inner, further))), *guard[c + 1:])


def _new_kinds(row):
    if row is None:
        return []
    return [piece[0] for piece in pieces(row) if not is_hole(piece)]
