"""Templates: trees with holes for the parts of other trees. What walks over them walks over trees and forms, too.

A piece is what these have in place of further groups: a leaf, a hole, or the string of a form.
Groups may be nested deeper than calls, therefore they are walked with lists.
"""

from errorplaces.errors import NoTemplate, NoTree
from errorplaces.plain import is_group, is_number, is_pair
from errorplaces.trees import is_tree


def is_template(kinds, thing):
    """Return whether any value is a template of these kinds."""
    pending = [thing]
    in_holes = []
    while pending:
        node = pending.pop()
        if is_group(node):
            pending.extend(node[1])
        elif _is_hole_of(kinds, node):
            in_holes.extend(node[1])
        elif not _is_new_leaf(kinds, node):
            return False
    return len(set(in_holes)) == len(in_holes)


def fill(kinds, template, tree):
    """Return a template filled with a tree, or None if nothing is left."""
    if not is_template(kinds, template):
        raise NoTemplate(template)
    if not is_tree(kinds, tree):
        raise NoTree(tree)
    return filled(template, tree)


def is_leaf(tree):
    """Whether a tree or template is a leaf."""
    return isinstance(tree[1], int)


def is_hole(piece):
    """Whether a piece of a tree or template is a hole."""
    return piece[0] == "*"


def pieces(root):
    """Return the list of all pieces, from left to right."""
    found = []
    pending = [root]
    while pending:
        node = pending.pop()
        if _has_children(node):
            pending.extend(node[1][::-1])
        else:
            found.append(node)
    return found


def rebuilt(root, change):
    """Return the root with change(piece) in the place of each piece; they are changed from left to right.

    A piece that becomes None is left out, and so is each group without children. If nothing is
    left, this is None.
    """
    begun = [("", [])]
    pending = [root]
    while pending:
        node = pending.pop()
        if _has_children(node):
            begun.append((node[0], []))
            # None stands where the group ends.
            pending.append(None)
            pending.extend(node[1][::-1])
        else:
            made = _ended(begun.pop()) if node is None else change(node)
            if made is not None:
                begun[-1][1].append(made)
    whole = begun[0][1]
    return whole[0] if whole else None


def kinds_in(tree):
    """Return the ascending list of the kinds of the leaves and holes of a tree or template."""
    found = {}
    for piece in pieces(tree):
        names = piece[1] if is_hole(piece) else (piece[0],)
        for kind in names:
            found[kind] = True
    return sorted(found)


def cut(tree, wanted):
    """Return the part of a tree or template for these kinds, or None. Holes are cut like leaves."""
    return rebuilt(tree, lambda piece: _cut_piece(piece, wanted))


def filled(template, tree):
    """Return a template with the parts of a tree, or of another template, in its holes, or None."""
    return rebuilt(template, lambda piece: cut(tree, piece[1]) if is_hole(piece) else piece)


def _is_hole_of(kinds, thing):
    if not is_pair(thing) or thing[0] != "*" or not isinstance(thing[1], tuple):
        return False
    names = thing[1]
    if not names or not all([name in kinds for name in names]):
        return False
    return list(names) == sorted(set(names))


def _is_new_leaf(kinds, thing):
    return is_pair(thing) and thing[0] in kinds and is_number(thing[1]) and thing[1] == 0


def _has_children(node):
    return isinstance(node, tuple) and isinstance(node[1], tuple) and node[0] != "*"


def _ended(group):
    message, children = group
    return (message, tuple(children)) if children else None


def _cut_piece(piece, wanted):
    if not is_hole(piece):
        return piece if piece[0] in wanted else None
    names = tuple([name for name in piece[1] if name in wanted])
    return ("*", names) if names else None
