"""Trees of errors, and their parts."""

from errorplaces.errors import NoKind, NoTree
from errorplaces.plain import is_group, is_number, is_pair, spread


def is_tree(kinds, thing):
    """Return whether any value is a tree of these kinds."""
    pending = [thing]
    while pending:
        node = pending.pop()
        if is_group(node):
            pending.extend(node[1])
        elif not _is_leaf(kinds, node):
            return False
    return True


def leaves(tree):
    """Yield (place, leaf) for each leaf, in order."""
    pending = [((), tree)]
    while pending:
        place, node = pending.pop()
        inner = _children(node)
        if not inner:
            yield place, node
        for k in reversed(range(len(inner))):
            pending.append(((*place, k), inner[k]))


def part(kinds, tree, names):
    """Return the part of a tree for the kinds with these names, or None."""
    _check(kinds, tree, names)
    return _cut(tree, names)


def split(kinds, tree, names):
    """Return the part for all kinds that are under one of the names, and the part for the others."""
    _check(kinds, tree, names)
    under = {kind: True for name in names for kind in kinds.below(name)}
    others = [kind for kind in kinds.order if kind not in under]
    return _cut(tree, under), _cut(tree, others)


def _is_leaf(kinds, thing):
    return is_pair(thing) and thing[0] in kinds and is_number(thing[1])


def _children(tree):
    return tree[1] if isinstance(tree[1], tuple) else ()


def _check(kinds, tree, names):
    if not is_tree(kinds, tree):
        raise NoTree(tree)
    for name in names:
        if name not in kinds:
            raise NoKind(name)


def _cut(tree, wanted):
    nodes, spans = spread(tree, _children)
    made = list(nodes)
    for at in reversed(range(len(nodes))):
        head, inner = nodes[at]
        if isinstance(inner, tuple):
            first, last = spans[at]
            kept = tuple([child for child in made[first:last] if child is not None])
            made[at] = (head, kept) if kept else None
        elif head not in wanted:
            made[at] = None
    return made[0]
