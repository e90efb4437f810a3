"""Plain values: names, integers and groups, and values that are nested at any depth."""

LETTERS = "abcdefghijklmnopqrstuvwxyz"
LONGEST_NAME = 8


def is_name(thing):
    """Whether any value is a string of 1 to 8 letters a to z."""
    if not isinstance(thing, str) or not 1 <= len(thing) <= LONGEST_NAME:
        return False
    return all([letter in LETTERS for letter in thing])


def is_number(thing):
    """Whether any value is an integer from 0."""
    return isinstance(thing, int) and not isinstance(thing, bool) and thing >= 0


def is_pair(thing):
    """Whether any value is a tuple of two items."""
    return isinstance(thing, tuple) and len(thing) == 2


def is_group(thing):
    """Whether any value is a message and a tuple of at least one item, whatever the items are."""
    if not is_pair(thing):
        return False
    message, inner = thing
    return (message == "" or is_name(message)) and isinstance(inner, tuple) and len(inner) > 0


def spread(root, inside):
    """Return a root with all nodes below it, and for each node the span of its children in this list.

    Children stand behind their parent, so a walk from the last node to the first one meets
    them before it. Values may be nested deeper than calls, therefore nothing here calls itself.
    """
    nodes = [root]
    spans = []
    while len(spans) < len(nodes):
        children = inside(nodes[len(spans)])
        spans.append((len(nodes), len(nodes) + len(children)))
        nodes.extend(children)
    return nodes, spans


def folded(root, inside, made_of):
    """Return made_of(root, what was made of its children), likewise for all nodes below it."""
    nodes, spans = spread(root, inside)
    made = list(nodes)
    for at in reversed(range(len(nodes))):
        first, last = spans[at]
        made[at] = made_of(nodes[at], made[first:last])
    return made[0]


def same(one, other):
    """Whether two values are equal. Tuples may be nested deeper than Python itself compares them."""
    pending = [(one, other)]
    while pending:
        left, right = pending.pop()
        if isinstance(left, tuple) and isinstance(right, tuple):
            if len(left) != len(right):
                return False
            pending.extend(list(zip(left, right)))
        elif left != right:
            return False
    return True


def copied(value):
    """Return an equal value that has no list in common with this one."""
    nodes, spans = taken_apart(value)
    return put_together(nodes, spans)


def taken_apart(value):
    """Return the nodes and spans of a value, from which it can be put together any number of times."""
    return spread(value, _inside)


def put_together(nodes, spans):
    """Return the value that was taken apart, with lists of its own."""
    made = list(nodes)
    for at in reversed(range(len(nodes))):
        first, last = spans[at]
        if isinstance(nodes[at], list):
            made[at] = made[first:last]
        elif isinstance(nodes[at], tuple):
            made[at] = tuple(made[first:last])
    return made[0]


def _inside(value):
    return value if isinstance(value, (list, tuple)) else ()
