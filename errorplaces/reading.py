"""Reading texts, whatever names of kinds they have. What is not written as it should be is read as None."""

from errorplaces.plain import is_group, is_name
from errorplaces.templates import pieces

DIGITS = "0123456789"
DEEPEST = 50


def words_in(text):
    """Return the list of the words of any value, None if it is no string or has an empty word."""
    if not isinstance(text, str):
        return None
    words = text.split(" ") if text else []
    return None if "" in words else words


def number_in(word):
    """Return the integer that a word writes, or None."""
    if not word or any([sign not in DIGITS for sign in word]) or (word[0] == "0" and word != "0"):
        return None
    number = 0
    # Python itself reads no more than 4300 digits at once.
    for sign in word:
        number = number * 10 + int(sign)
    return number


def names_in(item):
    """Return the tuple of the names that an item writes, if it is a word that does so, or None."""
    names = item.split(",") if isinstance(item, str) else []
    return tuple(names) if names and all([is_name(name) for name in names]) else None


def tree_in(item):
    """Return the tree that an item writes, if it is a word that does so, or None."""
    return _group_in(item, _leaf_in)


def form_in(item):
    """Return the form that an item writes, if it is a word that does so, or None."""
    form = _group_in(item, _form_piece_in)
    return None if form is None or pieces(form).count("*") > 1 else form


def stack_in(words):
    """Return the stack that a list of words writes, or None."""
    if not words:
        return ()
    items = _closed_items(words, _guard_of)
    if items is None:
        return None
    guards = [_guard_of(row) for row in _cut_at(items, "|")]
    return None if None in guards else tuple(guards)


def _closed_items(words, inner_of):
    """Return the list of the words, with inner_of(items) in the place of each pair of parentheses.

    The items are those between the two. This is None if the parentheses do not match, if they are
    nested too deep, or if what is between two of them is read as None.
    """
    begun = [[]]
    for word in words:
        if word == "(":
            begun.append([])
        elif word == ")":
            inner = inner_of(begun.pop()) if len(begun) > 1 else None
            if inner is None:
                return None
            begun[-1].append(inner)
        else:
            begun[-1].append(word)
        if len(begun) > DEEPEST + 1:
            return None
    return begun[0] if len(begun) == 1 else None


def _cut_at(items, sign):
    """Return the list of the lists of the items between the signs."""
    rows = [[]]
    for item in items:
        if item == sign:
            rows.append([])
        else:
            rows[-1].append(item)
    return rows


def _group_in(item, piece_in):
    if not isinstance(item, str):
        return None
    spaced = item.replace("(", " ( ").replace(")", " ) ").replace(",", " , ")
    items = _closed_items([run for run in spaced.split(" ") if run], lambda inner: _children_of(inner, piece_in))
    return None if items is None else _node_of(items, piece_in)


def _children_of(items, piece_in):
    children = [_node_of(row, piece_in) for row in _cut_at(items, ",")]
    return None if None in children else tuple(children)


def _node_of(items, piece_in):
    if len(items) == 1 and isinstance(items[0], str):
        return piece_in(items[0])
    # The message of a group may be empty, and then there is no word for it.
    node = tuple(items) if len(items) == 2 else ("", *items)
    return node if is_group(node) else None


def _leaf_in(run):
    kind, _, digits = run.partition(":")
    number = number_in(digits)
    return (kind, number) if is_name(kind) and number is not None else None


def _form_piece_in(run):
    return run if run == "*" or is_name(run) else None


def _guard_of(items):
    if items == ["-"]:
        return ()
    clauses = [_clause_of(row) for row in _cut_at(items, ";")]
    return None if None in clauses else tuple(clauses)


def _clause_of(items):
    if not items:
        return None
    names = names_in(items[0])
    action = _action_of(items[1:])
    return None if names is None or action is None else (names, action)


def _action_of(items):
    if items in (["drop"], ["back"]):
        return items[0]
    if len(items) != 2:
        return None
    word, item = items
    told = None
    if word == "keep":
        told = names_in(item)
    elif word == "raise":
        told = form_in(item)
    elif word == "pass" and isinstance(item, tuple):
        told = item
    return None if told is None else (word, told)
