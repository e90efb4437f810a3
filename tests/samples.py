"""The examples of the document, and values of unlike types."""

from errorplaces.kinds import Kinds

K = Kinds(io=(), net=("io",), disk=("io",), both=("net", "disk"))
T = ("all", (("net", 1), ("sub", (("disk", 2), ("io", 3)))))
G = ((("net",), "drop"), (("disk",), "back"))
H = ((("io",), ("raise", ("note", ("*", "net")))),)
P = ((("io",), ("pass", ((("net",), ("raise", "disk")),))),)


def nested(inner, depth, wrap):
    """A value that is wrapped again and again."""
    for _ in range(depth):
        inner = wrap(inner)
    return inner


def as_lists(value):
    """The value with a list for each tuple."""
    return [as_lists(item) for item in value] if isinstance(value, tuple) else value


UNLIKE = [
    None, True, False, 0, 1, -1, 7, 10 ** 59, -(10 ** 59),
    "", " ", "*", "a b", "Net", "net ", " net", "n1", "n_t", "cpu", "NET", "abcdefghi", "x" * 4000,
    (), [], (None,), [None], ((),), [[]], ([],), [()], (True, False), (1, 2), ("", ""), ("", ()), ("", []),
    ("cpu", 1), ("net",), ["net"], ("net", -1), ("net", True), ("net", None), ("net", "1"), ["net", 1],
    (1, "net"), ("net", 1, 1), (("net", 1),), [("net", 1)],
    nested((), 50, lambda inner: (inner,)), nested([], 50, lambda inner: [inner]),
    tuple(range(5000)), list(range(5000)), ["x"] * 5000,
]
NO_STACKS = [thing for thing in [*UNLIKE, [G], G, H, P, (G, 5), as_lists((G,)), ((((), "drop"),),), (((("cpu",), "drop"),),)]
             if thing not in ((), ((),))]
