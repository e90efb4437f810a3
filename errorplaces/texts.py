"""Texts of trees, templates, forms and stacks."""

from errorplaces.errors import NoText
from errorplaces.handlers import is_stack
from errorplaces.plain import folded, is_group
from errorplaces.reading import stack_in, tree_in, words_in
from errorplaces.templates import is_hole
from errorplaces.trees import is_tree

# Python itself writes no more than 4300 digits at once, so they are written 18 by 18.
MANY_DIGITS = 18
LARGE = 10 ** 18


def show_tree(tree):
    """Return the text of a tree."""
    return _shown(tree, _leaf_text)


def show_template(template):
    """Return the text of a template."""
    return _shown(template, _template_piece_text)


def show_form(form):
    """Return the text of a form."""
    return _shown(form, lambda piece: piece)


def show_stack(stack):
    """Return the text of a stack."""
    return " | ".join([folded(guard, _inner_guards, _guard_text) for guard in stack])


def read_tree(kinds, text):
    """Return the tree of these kinds that a text writes. The text is any value."""
    words = words_in(text)
    tree = tree_in(words[0]) if words is not None and len(words) == 1 else None
    if not is_tree(kinds, tree):
        raise NoText(text)
    return tree


def read_stack(kinds, text):
    """Return the stack of these kinds that a text writes. The text is any value."""
    words = words_in(text)
    stack = None if words is None else stack_in(words)
    if not is_stack(kinds, stack):
        raise NoText(text)
    return stack


def _shown(root, piece_text):
    return folded(root, _children, lambda node, texts: _group_text(node, texts) if texts else piece_text(node))


def _children(node):
    return node[1] if is_group(node) else ()


def _group_text(group, texts):
    return f"{group[0]}({','.join(texts)})"


def _leaf_text(leaf):
    kind, number = leaf
    return f"{kind}:{_digits(number)}"


def _digits(number):
    ends = []
    while number >= LARGE:
        number, end = divmod(number, LARGE)
        ends.append(str(end).zfill(MANY_DIGITS))
    return "".join([str(number), *ends[::-1]])


def _template_piece_text(piece):
    return f"*{'/'.join(piece[1])}" if is_hole(piece) else _leaf_text(piece)


def _inner_guards(guard):
    return [action[1] for _, action in guard if action[0] == "pass"]


def _guard_text(guard, inner_texts):
    """Return the text of a guard, with the texts of its inner guards in their order."""
    waiting = inner_texts[::-1]
    clauses = []
    for names, action in guard:
        inner = waiting.pop() if action[0] == "pass" else ""
        clauses.append(f"{','.join(names)} {_action_text(action, inner)}")
    return " ; ".join(clauses) if clauses else "-"


def _action_text(action, inner):
    if isinstance(action, str):
        return action
    word, what = action
    if word == "keep":
        return f"keep {','.join(what)}"
    if word == "raise":
        return f"raise {show_form(what)}"
    return f"pass ( {inner} )"
