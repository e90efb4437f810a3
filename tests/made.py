"""Trees, stacks and histories in great number. The seeds are fixed, so that they are always the same."""

import itertools
import random

from errorplaces.kinds import Kinds
from samples import G, H, P

FAMILIES = [
    dict(io=(), net=("io",), disk=("io",), both=("net", "disk")),
    dict(a=()),
    dict(a=(), b=()),
    dict(z=(), m=("z",), a=("m",)),
    dict(a=(), b=("a",), c=("b",), d=(), e=("d", "a"), f=("c", "e"), g=()),
]
BASES = FAMILIES[0]
FIVE = dict(a=(), b=("a",), c=("a",), d=("b", "c"), e=())
ACTION_NAMES = {"drop": (), "back": ("drop",), "keep": (), "raise": ("keep", "drop"), "pass": ("raise",)}
STAR_FORMS = ["*", ("", ("*",)), ("m", ("*", "net")), ("m", ("net", "*", "io")), ("a", (("b", ("disk", ("", ("*",)))), "net"))]
FORMS = [*STAR_FORMS, "io", "both", ("m", ("net",)), ("m", ("net", ("n", ("io", "disk")), "both"))]
ACTIONS = [
    "drop", "back", ("keep", ("net",)), ("keep", ("io",)), ("keep", ("both", "both")),
    *[("raise", form) for form in FORMS],
    ("pass", ()), ("pass", ((("net",), "back"),)), ("pass", ((("net",), "drop"),)), ("pass", ((("io",), "drop"),)),
    ("pass", ((("net",), ("raise", "disk")),)), ("pass", ((("net",), ("raise", ("m", ("*",)))), (("disk",), "back"))),
    ("pass", ((("both",), ("pass", ((("net",), ("raise", ("x", ("io", "*")))), (("io",), "drop")))), (("io",), "back"))),
]
ONE_CLAUSE = [((((name,), action),),) for name in ("io", "net", "both") for action in ACTIONS]
EDGES = [
    (), ((),), ((), (), ()), ((), G), (G, ()),
    (G,), (H,), (P,), (G, H), (H, G), (P, P), (G, H, P, G, H, P), (H, H, H, H, H, H),
    # An earlier clause takes all that a later one could take.
    (((("io",), "back"), (("net",), "drop"), (("disk",), ("raise", "both"))),),
    (((("net", "disk"), "drop"), (("both", "net", "disk"), ("raise", "*")), (("io",), ("raise", ("m", ("*",))))),),
    # Names are repeated.
    (((("net", "net", "both", "net"), ("keep", ("both", "both", "both"))), (("io", "io"), "back")),),
    # Several clauses raise, and something is left.
    (((("both",), ("raise", "*")), (("net",), ("raise", ("n", ("io", "*")))), (("disk",), "back")),),
    (((("disk",), ("raise", ("d", ("net", "*", "io")))), (("net",), ("raise", "both"))), H, G),
    # New leaves are dropped later.
    (H, ((("net",), "drop"),)), (H, ((("io",), "drop"),)), (P, ((("disk",), "drop"),), G),
]
SIGNS = "abimotxz:,()*-;|<>/.+ 0123789AZ~"
WORDS = ["io", "net", "drop", "back", "keep", "raise", "pass", "(", ")", ";", "|", "-", "*", "io,net", "m(*,io)", "io:1", "0", "1",
         "m(io:1,(net:2))", "", "kinds", "open", "under", "set", "close", "place", "destiny", "handle", "row", "day", "net<io", "cpu"]


def under_all(bases):
    return list(itertools.chain.from_iterable(itertools.combinations(sorted(bases), k) for k in range(1, len(bases) + 1)))


class Maker:

    def __init__(self, seed, bases=None):
        self.dice = random.Random(seed)
        self.bases = BASES if bases is None else bases
        self.names = sorted(self.bases)
        self.kinds = Kinds(**self.bases)

    def some(self, most):
        return tuple([self.dice.choice(self.names) for _ in range(self.dice.randint(1, most))])

    def message(self):
        return self.dice.choice(["", "m", "net", "abcdefgh"])

    def tree(self, depth=3):
        if depth == 0 or self.dice.random() < 0.3:
            return (self.dice.choice(self.names), self.dice.randint(0, 3))
        return (self.message(), tuple([self.tree(depth - 1) for _ in range(self.dice.randint(1, 3))]))

    def form(self, depth, stars):
        """A form with a star, if stars is 1; else without one."""
        if depth == 0 or self.dice.random() < 0.3:
            return "*" if stars else self.dice.choice(self.names)
        many = self.dice.randint(1, 3)
        at = self.dice.randrange(many)
        return (self.message(), tuple([self.form(depth - 1, stars if k == at else 0) for k in range(many)]))

    def action(self, depth):
        word = self.dice.choice(["drop", "back", "keep", "raise", "raise", "pass", "pass"] if depth else
                                ["drop", "back", "keep", "raise", "raise"])
        if word == "keep":
            return (word, self.some(2))
        if word == "raise":
            return (word, self.form(2, self.dice.randint(0, 1)))
        return (word, self.guard(depth - 1)) if word == "pass" else word

    def guard(self, depth=2):
        return tuple([(self.some(2), self.action(depth)) for _ in range(self.dice.randint(0, 3))])

    def stack(self, most=3):
        return tuple([self.guard() for _ in range(self.dice.randint(0, most))])

    def stacks(self, many):
        return [self.stack() for _ in range(many)]

    def trees(self, many):
        return [self.tree() for _ in range(many)]

    def call(self, scopes, set_too=True):
        """The word and the arguments of a call that is allowed for these scopes now."""
        now_open = scopes.open_scopes
        words = ["begin", "raise", "raise", "raise", "close", "set"]
        word = self.dice.choice(words if set_too else words[:-1]) if now_open else "begin"
        if word == "begin":
            parent = self.dice.choice([None, *now_open, *now_open])
            return ("begin", (self.dice.choice(["day", "job", "net"]), *self.stack(2)), {"parent": parent})
        scope = self.dice.choice(now_open)
        if word == "raise":
            return ("raise_in", (scope, *[self.dice.choice(self.names) for _ in range(self.dice.randint(0, 3))]), {})
        return ("close", (scope,), {}) if word == "close" else ("set_stack", (scope, *self.stack(2)), {})


def done(scopes, call):
    """What a call returns."""
    word, arguments, named = call
    return getattr(scopes, word)(*arguments, **named)


def spoilt(dice, text):
    """The text with a sign or a word left out, put in, doubled, changed or exchanged with another."""
    by_words = dice.random() < 0.5
    parts = text.split(" ") if by_words else list(text)
    other = dice.choice(WORDS if by_words else SIGNS)
    way = dice.choice(["out", "in", "twice", "change", "exchange"])
    at, to = dice.randrange(len(parts) or 1), dice.randrange(len(parts) or 1)
    if way == "in":
        parts.insert(at, other)
    elif parts and way == "out":
        del parts[at]
    elif parts and way == "twice":
        parts.insert(at, parts[at])
    elif parts and way == "change":
        parts[at] = other
    elif parts:
        parts[at], parts[to] = parts[to], parts[at]
    return (" " if by_words else "").join(parts)
