"""Running stacks of handlers on trees. A template is run like a tree."""

from errorplaces.errors import NoNumber, NoPlace, NoStack, NoTree
from errorplaces.handlers import is_stack
from errorplaces.plain import is_number
from errorplaces.templates import cut, is_leaf, kinds_in, pieces, rebuilt
from errorplaces.trees import is_tree, leaves


class Numbers:
    """The kinds of the new leaves as they are raised. The leaves are numbered from first on, or all 0."""

    def __init__(self, first):
        self._first = first
        self.raised = []

    def leaf(self, kind):
        """Return the next new leaf."""
        number = self._first + len(self.raised) if self._first > 0 else 0
        self.raised.append(kind)
        return kind, number


def handled(kinds, stack, tree, *, first=0):
    """Return the outcome of a stack for a tree, or None. New leaves are numbered from first on, or all 0."""
    _check(kinds, stack, tree)
    if not is_number(first):
        raise NoNumber(first)
    return run_stack(kinds, stack, tree, Numbers(first))[-1]


def passage(kinds, stack, tree):
    """Yield the outcome of each guard that gets something, in order, None if it has none."""
    _check(kinds, stack, tree)
    for outcome in run_stack(kinds, stack, tree, Numbers(0))[1:]:
        yield outcome


def way(kinds, stack, tree, place):
    """Return the list of a step (address, word, place) for each guard that gets the leaf at a place."""
    _check(kinds, stack, tree)
    places = [found for found, _ in leaves(tree)]
    if not _is_indices(place) or place not in places:
        raise NoPlace(place)
    # Leaves may be equal, so each one gets a number of its own; new leaves have the number 0.
    own = Numbers(1)
    numbered = rebuilt(tree, lambda leaf: own.leaf(leaf[0]))
    at = places.index(place)
    return _steps(kinds, stack, numbered, (own.raised[at], at + 1))


def run_stack(kinds, stack, tree, numbers):
    """Return the list of the tree and the outcome of each guard that gets something.

    The last one is the outcome of the stack, None if there is none. A hole that is the whole
    tree stands for a group.
    """
    stations = [tree]
    for guard in stack:
        if stations[-1] is not None:
            raised, left = _run_guard(kinds, guard, stations[-1], numbers)
            stations.append(_guard_outcome(raised, left))
    return stations


def taker(kinds, guard, kind):
    """Return the path of indices to the innermost clause that takes the leaves of a kind, and its action.

    The path is () if no clause takes them.
    """
    path = ()
    action = ("pass", guard)
    while action[0] == "pass":
        inner = action[1]
        taking = [c for c, clause in enumerate(inner) if _is_under(kinds, kind, clause[0])]
        if not taking:
            break
        path = (*path, taking[0])
        action = inner[taking[0]][1]
    return path, action


def drop_path(kinds, guard, kind):
    """Return the path of indices to the clause that drops the leaves of a kind, None if they come out."""
    path, action = taker(kinds, guard, kind)
    return path if _drops(kinds, action, kind) else None


def drop_address(kinds, stack, kind):
    """Return the address of the clause that drops the leaves of a kind, None if they come out."""
    for g, guard in enumerate(stack):
        path = drop_path(kinds, guard, kind)
        if path is not None:
            return (g, *path)
    return None


def _check(kinds, stack, tree):
    if not is_stack(kinds, stack):
        raise NoStack(stack)
    if not is_tree(kinds, tree):
        raise NoTree(tree)


def _is_indices(thing):
    return isinstance(thing, tuple) and all([is_number(index) for index in thing])


def _run_guard(kinds, guard, tree, numbers):
    """Return the list of the trees that a guard raises, and what is left, or None."""
    firing, left = _firing(kinds, guard, kinds_in(tree))
    if firing and is_leaf(tree):
        tree = ("", (tree,))
    raised = []
    for action, taken in firing:
        more, back = _act(kinds, action, cut(tree, taken), numbers)
        raised.extend(more)
        left.extend(back)
    return raised, cut(tree, left)


def _guard_outcome(raised, left):
    if not raised:
        return left
    return ("", tuple(raised)) if left is None else ("", (*raised, left))


def _firing(kinds, guard, present):
    """Return a list of the action and the taken kinds of each clause that fires, and the kinds that none took."""
    firing = []
    for names, action in guard:
        taken = [kind for kind in present if _is_under(kinds, kind, names)]
        if taken:
            firing.append((action, taken))
        present = [kind for kind in present if kind not in taken]
    return firing, present


def _is_under(kinds, kind, names):
    above = kinds.above(kind)
    return any([name in above for name in names])


def _act(kinds, action, tree, numbers):
    """Return the list of the tree that an action raises, if any, and the kinds that it gives back."""
    if action == "drop":
        return [], []
    if action == "back":
        return [], kinds_in(tree)
    word, what = action
    if word == "keep":
        return [], [kind for kind in kinds_in(tree) if _is_under(kinds, kind, what)]
    if word == "raise":
        return [_built(what, tree, numbers)], []
    raised, left = _run_guard(kinds, what, tree, numbers)
    if raised:
        return [_guard_outcome(raised, left)], []
    return [], [] if left is None else kinds_in(left)


def _built(form, tree, numbers):
    return rebuilt(form, lambda piece: tree if piece == "*" else numbers.leaf(piece))


def _drops(kinds, action, kind):
    if action[0] == "keep":
        return not _is_under(kinds, kind, action[1])
    if action[0] == "raise":
        return "*" not in pieces(action[1])
    return action == "drop"


def _steps(kinds, stack, tree, leaf):
    steps = []
    for g, guard in enumerate(stack):
        raised, left = _run_guard(kinds, guard, tree, Numbers(0))
        tree = _guard_outcome(raised, left)
        place = _place_in(tree, leaf)
        path, _ = taker(kinds, guard, leaf[0])
        steps.append(((g, *path) if path else (), _word(path, place, len(raised)), place))
        if place is None:
            break
    return steps


def _place_in(tree, leaf):
    if tree is None:
        return None
    places = [place for place, found in leaves(tree) if found == leaf]
    return places[0] if places else None


def _word(path, place, many_raised):
    if not path:
        return "untouched"
    if place is None:
        return "dropped"
    # The raised trees stand first in the outcome of a guard, before what is left.
    return "raised" if place[0] < many_raised else "back"
