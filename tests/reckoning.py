"""A second way of working things out: leaf by leaf, where each leaf is an object of its own.

It uses nothing of the package. What the package tells by kinds is told here by following each
single leaf; rows are read off the outcome for a tree whose groups can be recognised.
"""

import copy
import itertools

PROBE = "probe"


class Leaf:

    def __init__(self, kind, number):
        self.kind = kind
        self.number = number
        self.address = ()       # of the innermost clause that took it, in the guard that ran last
        self.dropped_by = None


class Group:

    def __init__(self, message, children):
        self.message = message
        self.children = children


def grown(tree):
    """Objects for a tree."""
    if isinstance(tree[1], tuple):
        return Group(tree[0], [grown(child) for child in tree[1]])
    return Leaf(*tree)


def flat(node):
    """The tree of an object, None for None."""
    if node is None:
        return None
    if isinstance(node, Leaf):
        return (node.kind, node.number)
    return (node.message, tuple([flat(child) for child in node.children]))


def spots(node, place=()):
    """A list of pairs of a place and a leaf object."""
    if node is None:
        return []
    if isinstance(node, Leaf):
        return [(place, node)]
    return [spot for k, child in enumerate(node.children) for spot in spots(child, place + (k,))]


def only(node, chosen):
    """The part with the leaf objects that are chosen, or None."""
    if node is None:
        return None
    if isinstance(node, Leaf):
        return node if any(node is leaf for leaf in chosen) else None
    children = [part for part in [only(child, chosen) for child in node.children] if part is not None]
    return Group(node.message, children) if children else None


def without(leaves, others):
    return [leaf for leaf in leaves if not any(leaf is other for other in others)]


class Reckoner:
    """Runs stacks on objects, for the kinds of a dict with the bases of each one."""

    def __init__(self, bases):
        self.bases = bases
        self.fired = set()      # the addresses of all clauses that have fired

    def under(self, kind, names):
        return kind in names or any(self.under(base, names) for base in self.bases[kind])

    def build(self, form, node, numbers):
        if form == "*":
            return node
        if isinstance(form, str):
            return Leaf(form, next(numbers))
        return Group(form[0], [self.build(part, node, numbers) for part in form[1]])

    def guard(self, guard, node, numbers, prefix):
        """The raised objects, and what is left."""
        free = [leaf for _, leaf in spots(node)]
        if isinstance(node, Leaf) and any(self.under(node.kind, names) for names, _ in guard):
            node = Group("", [node])
        raised, returned = [], []
        for c, (names, action) in enumerate(guard):
            took = [leaf for leaf in free if self.under(leaf.kind, names)]
            free = without(free, took)
            for leaf in took:
                leaf.address = prefix + (c,)
            if took:
                self.fired.add(prefix + (c,))
                raised_here, back = self.act(action, only(node, took), numbers, prefix + (c,))
                raised += raised_here
                returned += back
                out = [leaf for tree in raised_here for _, leaf in spots(tree)] + back
                for leaf in without(took, out):
                    leaf.dropped_by = leaf.address
        return raised, only(node, free + returned)

    def act(self, action, node, numbers, address):
        leaves = [leaf for _, leaf in spots(node)]
        if action == "drop":
            return [], []
        if action == "back":
            return [], leaves
        if action[0] == "keep":
            return [], [leaf for leaf in leaves if self.under(leaf.kind, action[1])]
        if action[0] == "raise":
            return [self.build(action[1], node, numbers)], []
        raised, left = self.guard(action[1], node, numbers, address)
        if raised:
            return [Group("", raised + ([] if left is None else [left]))], []
        return [], [leaf for _, leaf in spots(left)]

    def station(self, guard, node, numbers, g):
        """The outcome of guard g of a stack, and its step for each leaf that it got."""
        got = [leaf for _, leaf in spots(node)]
        for leaf in got:
            leaf.address = ()
        raised, left = self.guard(guard, node, numbers, (g,))
        outcome = Group("", raised + ([] if left is None else [left])) if raised else left
        within = [leaf for tree in raised for _, leaf in spots(tree)]
        steps = []
        for leaf in got:
            place = [place for place, other in spots(outcome) if other is leaf]
            assert len(place) <= 1 and (not place) == (leaf.dropped_by is not None)
            word = "back"
            if leaf.address == ():
                word = "untouched"
            elif not place:
                word = "dropped"
            elif not without([leaf], within):
                word = "raised"
            steps.append((leaf, (leaf.address, word, place[0] if place else None)))
        return outcome, steps

    def run(self, stack, tree, first=0):
        """The outcomes of the guards that get something, and the ways of the leaves, in order."""
        numbers = itertools.count(first) if first else itertools.repeat(0)
        node = grown(tree)
        leaves = [leaf for _, leaf in spots(node)]
        ways = [[] for _ in leaves]
        outcomes = []
        for g, guard in enumerate(stack):
            if node is None:
                break
            node, steps = self.station(guard, node, numbers, g)
            outcomes.append(flat(node))
            for way, leaf in zip(ways, leaves):
                way += [step for other, step in steps if other is leaf]
        return outcomes, ways

    def outcome(self, stack, tree, first=0):
        outcomes, _ = self.run(stack, tree, first)
        return outcomes[-1] if outcomes else tree

    def row(self, stack, names):
        """The row for these kinds, read off the outcome for a tree of one group."""
        tree = (PROBE, tuple([(name, 1) for name in sorted(names)]))
        return self.holes(self.outcome(stack, tree))

    def bare_row(self, stack, name):
        return self.holes(self.outcome(stack, (name, 1)))

    def holes(self, tree):
        """The template for an outcome: leaves with the number 1, and groups of the probe, are in holes."""
        if tree is None:
            return None
        head, inner = tree
        if head == PROBE:
            return ("*", tuple([kind for kind, _ in inner]))
        if isinstance(inner, int):
            return tree if inner == 0 else ("*", (head,))
        return (head, tuple([self.holes(child) for child in inner]))


class Asker:
    """Answers questions about stacks by running them on a tree of each set of kinds, and on each bare leaf."""

    def __init__(self, bases):
        self.bases = bases
        names = sorted(bases)
        sets = [chosen for many in range(1, len(names) + 1) for chosen in itertools.combinations(names, many)]
        self.probes = [(name, 1) for name in names]
        self.probes += [(PROBE, tuple([(name, 1) for name in chosen])) for chosen in sets]

    def outcomes(self, stack):
        return [Reckoner(self.bases).outcome(stack, probe) for probe in self.probes]

    def fewest(self, one, other):
        """The fewest leaves of a probe that tells two stacks apart, None if there is none."""
        rows = zip(self.probes, self.outcomes(one), self.outcomes(other))
        return min([len(spots(grown(probe))) for probe, found, expected in rows if found != expected], default=None)

    def drops(self, stack):
        """The sets of what drops the leaves of each kind in any probe: an address, or None if they come out."""
        found = {name: set() for name in self.bases}
        for probe in self.probes:
            for (_, leaf), way in zip(spots(grown(probe)), Reckoner(self.bases).run(stack, probe)[1]):
                dropping = [address for address, word, _ in way if word == "dropped"]
                found[leaf.kind].add(dropping[0] if dropping else None)
        return found

    def idle(self, stack):
        reckoner = Reckoner(self.bases)
        for probe in self.probes:
            reckoner.run(stack, probe)
        return [address for address in all_addresses(stack) if address not in reckoner.fired]

    def spare(self, stack):
        expected = self.outcomes(stack)
        return [address for address in all_addresses(stack) if self.outcomes(left_out(stack, address)) == expected]

    def added(self, stack):
        outcomes = [outcome for outcome in self.outcomes(stack) if outcome is not None]
        return sorted({leaf.kind for outcome in outcomes for _, leaf in spots(grown(outcome)) if leaf.number == 0})


def all_addresses(stack):
    def within(guard, prefix):
        for c, (_, action) in enumerate(guard):
            yield prefix + (c,)
            if action[0] == "pass":
                yield from within(action[1], prefix + (c,))
    return [address for g, guard in enumerate(stack) for address in within(guard, (g,))]


def left_out(stack, address):
    """The stack without the clause at this address."""
    lists = retyped(stack, tuple, list)
    guard = lists[address[0]]
    for c in address[1:-1]:
        guard = guard[c][1][1]
    del guard[address[-1]]
    return retyped(lists, list, tuple)


def retyped(value, one, other):
    return other([retyped(item, one, other) for item in value]) if isinstance(value, one) else value


def filled(template, tree):
    """A template with parts of a tree in its holes, or None."""
    head, inner = template
    if head == "*":
        node = grown(tree)
        return flat(only(node, [leaf for _, leaf in spots(node) if leaf.kind in inner]))
    if isinstance(inner, int):
        return template
    children = [child for child in [filled(part, tree) for part in inner] if child is not None]
    return (head, tuple(children)) if children else None


class ReckonedScopes:
    """Scopes as dicts, whose entries are leaf objects and the dicts of the scopes under them."""

    def __init__(self, bases):
        self.reckoner = Reckoner(bases)
        self.scopes = []
        self.errors = []
        self.dropped = {}

    def begin(self, message, *guards, parent=None):
        scope = {"message": message, "stack": guards, "parent": parent, "entries": [], "open": True, "outcome": None}
        self.scopes.append(scope)
        if parent is not None:
            self.scopes[parent]["entries"].append(scope)
        return len(self.scopes) - 1

    def set_stack(self, scope, *guards):
        self.scopes[scope]["stack"] = guards

    def raise_in(self, scope, *names):
        leaves = [self.new_leaf(name) for name in names]
        self.scopes[scope]["entries"] += leaves
        return [leaf.number for leaf in leaves]

    def new_leaf(self, kind):
        leaf = Leaf(kind, len(self.errors) + 1)
        self.errors.append(leaf)
        return leaf

    def nodes(self, scope):
        """The entries that are not empty, as objects."""
        found = [entry["outcome"] if isinstance(entry, dict) else entry for entry in self.scopes[scope]["entries"]]
        return [node for node in found if node is not None]

    def close(self, scope):
        for n, other in enumerate(self.scopes):
            if other["open"] and other["parent"] == scope:
                self.close(n)
        nodes = self.nodes(scope)
        outcome = self.pass_through(scope, nodes) if nodes else None
        self.scopes[scope]["open"] = False
        self.scopes[scope]["outcome"] = outcome
        return flat(outcome)

    def pass_through(self, scope, nodes):
        node = Group(self.scopes[scope]["message"], nodes)
        for g, guard in enumerate(self.scopes[scope]["stack"]):
            if node is not None:
                node = self.passed_guard(scope, g, guard, node)
        return node

    def passed_guard(self, scope, g, guard, node):
        first = len(self.errors) + 1
        outcome, steps = self.reckoner.station(guard, node, itertools.count(first), g)
        raised = [leaf for _, leaf in spots(outcome) if leaf.number >= first]
        self.errors += sorted(raised, key=lambda leaf: leaf.number)
        for leaf, (address, word, _) in steps:
            if word == "dropped":
                self.dropped[leaf.number] = ("dropped", scope, address)
        return outcome

    def collected(self, scope):
        return [flat(node) for node in self.nodes(scope)]

    @property
    def open_scopes(self):
        return [n for n, scope in enumerate(self.scopes) if scope["open"]]

    @property
    def outcomes(self):
        return [(n, flat(scope["outcome"])) for n, scope in enumerate(self.scopes)
                if scope["parent"] is None and scope["outcome"] is not None]

    def __len__(self):
        return len(self.open_scopes)

    def places(self):
        """A dict with the list of all places of each number."""
        found = {leaf.number: [] for leaf in self.errors}
        for number, place in self.dropped.items():
            found[number].append(place)
        for n, scope in enumerate(self.scopes):
            if scope["open"]:
                for place, leaf in spots(Group("", self.nodes(n))):
                    found[leaf.number].append(("waiting", n, place))
            elif scope["parent"] is None:
                for place, leaf in spots(scope["outcome"]):
                    found[leaf.number].append(("out", n, place))
        return found

    def place_of(self, number):
        place, = self.places()[number]
        return place

    def destinies(self):
        """What becomes of the errors that there are, when all scopes are closed now."""
        last = copy.deepcopy(self)
        for n in self.open_scopes:
            if last.scopes[n]["open"]:
                last.close(n)
        told = {leaf.number: last.place_of(leaf.number) for leaf in self.errors}
        return {number: place if place[0] == "dropped" else place[:2] for number, place in told.items()}

    def kind_of(self, number):
        return self.errors[number - 1].kind
