"""Tables: what stacks do to all trees at once."""

from itertools import combinations

from errorplaces.errors import NoNames, NoStack, NoTree, Unlike
from errorplaces.handlers import is_stack
from errorplaces.plain import same
from errorplaces.running import Numbers, run_stack
from errorplaces.templates import filled, is_hole, is_leaf, kinds_in, rebuilt
from errorplaces.trees import is_tree


class Table:
    """A row for each set of kinds that a tree may have, and a bare row for each kind."""

    def __init__(self, kinds, *guards):
        if not is_stack(kinds, guards):
            raise NoStack(guards)
        self._kinds = kinds
        # The keys are pairs of the ascending names and whether the row is bare, in the order of all rows.
        self._rows = _all_rows(kinds, guards)

    def __eq__(self, other):
        return isinstance(other, Table) and self._kinds == other._kinds and _are_same(self._rows, other._rows)

    def __len__(self):
        return len(self._rows)

    def __repr__(self):
        return f"Table({len(self._rows)} rows)"

    def __call__(self, tree):
        return self.outcome(tree)

    @property
    def kinds(self):
        """The table of kinds."""
        return self._kinds

    def row(self, names, *, bare=False):
        """Return the row for the kinds with these names, or the bare row for the only one."""
        if not _are_names(self._kinds, names) or (bare and len(names) != 1):
            raise NoNames(names)
        return self._rows[(tuple(sorted(names)), bare)]

    def rows(self):
        """Yield (names, is_bare, row) for all rows: sets with fewer kinds first, a bare row before the other."""
        for (names, is_bare), row in self._rows.items():
            yield names, is_bare, row

    def then(self, *others):
        """Return the table of this stack and those of the other tables, one after the other."""
        for other in others:
            if other._kinds != self._kinds:
                raise Unlike()
        composed = self._rows
        for other in others:
            composed = {key: other._following(composed[key], key[1]) for key in composed}
        made = Table(self._kinds)
        made._rows = {key: composed[key] for key in composed}
        return made

    def outcome(self, tree):
        """Return the outcome for a tree, or None. New leaves have the number 0."""
        if not is_tree(self._kinds, tree):
            raise NoTree(tree)
        return self._filled_row(tree, is_leaf(tree))

    def _following(self, template, is_bare):
        if template is None:
            return None
        return self._filled_row(template, is_bare and is_hole(template))

    def _filled_row(self, tree, is_bare):
        row = self._rows[(tuple(kinds_in(tree)), is_bare)]
        return None if row is None else filled(row, tree)


def _are_same(rows, others):
    """Whether all rows of two tables of the same kinds are equal."""
    return all([same(rows[key], others[key]) for key in rows])


def _all_rows(kinds, stack):
    found = {}
    for names in _sets(sorted(kinds.order)):
        if len(names) == 1:
            found[(names, True)] = _bare_row(kinds, stack, names)
        found[(names, False)] = run_stack(kinds, stack, ("*", names), Numbers(0))[-1]
    return found


def _sets(names):
    found = []
    for many in range(1, len(names) + 1):
        found.extend(list(combinations(names, many)))
    return found


def _bare_row(kinds, stack, names):
    # A leaf that is no hole is run as a bare one. New leaves have the number 0, so 1 tells it apart.
    outcome = run_stack(kinds, stack, (names[0], 1), Numbers(0))[-1]
    if outcome is None:
        return None
    return rebuilt(outcome, lambda leaf: ("*", names) if leaf[1] == 1 else leaf)


def _are_names(kinds, thing):
    if not isinstance(thing, (list, tuple)) or not thing:
        return False
    return all([name in kinds for name in thing]) and len(set(thing)) == len(thing)
