import itertools
import unittest

from errorplaces.errors import NoStack
from errorplaces.handlers import addresses, is_form, is_stack
from errorplaces.kinds import Kinds
from samples import G, H, K, P, UNLIKE, as_lists, nested

FORMS = [
    "*", "io", "both", ("note", ("*", "net")), ("", ("*",)), ("", ("net",)), ("m", ("io", "io", "io")),
    ("m", (("n", ("net", ("", ("*",)))), "disk")), ("net", ("net",)), ("a", ("io",)), ("abcdefgh", ("io",)),
    ("m", ("io",) * 11), nested("*", 50, lambda form: ("", (form, "net"))), ("m", ("io", "*", "io")),
]
TWO_STARS = [
    ("m", ("*", "*")), ("m", ("*", "io", "*")), ("m", (("n", ("*",)), ("n", ("*",)))), ("m", ("*", ("n", ("*",)))),
    ("m", (("n", (("", ("*",)),)), "*")), ("", ("*", "*", "*")), nested("*", 50, lambda form: ("", (form, "*"))),
]
NO_FORMS = [
    "cpu", "", "**", "* ", "IO", "io ", 0, 1, True, None, (), [], ("*",), ["*"], ("io",), ["io"], ("m", "io"),
    ("m", "*"), ("m", ()), ("", ()), ("m", []), ("m", ["io"]), ["m", ("io",)], ("m", ("io",), 1), ("m",),
    ("m", (("n", ()),)), ("m", (["n", ("io",)],)), ("m", ("io", "cpu")), ("m", ("io", "")), ("m", ("io", None)),
    ("m", ("io", 1)), ("m", (("io", 1),)), ("io", 1), ("io", 0), ("*", ("io",)), ("*", "io"), ("M", ("io",)),
    ("abcdefghi", ("io",)), ("m ", ("io",)), (None, ("io",)), (1, ("io",)), (("io",), "m"), ("m", (("n", ("cpu",)),)),
    ("io", "net"), ("*", ("*",)), ("m", (("n", "io"),)),
]
INNER = ((("net",), "drop"), (("io", "disk"), ("pass", ((("both",), "back"), (("io",), ("raise", "*"))))))
GOOD_ACTIONS = [
    "drop", "back", ("keep", ("io",)), ("keep", ("io", "io", "both")), ("pass", ()), ("pass", INNER), ("pass", G),
    *[("raise", form) for form in FORMS],
]
BAD_ACTIONS = [
    "keep", "raise", "pass", "Drop", "drop ", "", "*", "io", None, True, 0, (), ("drop",), ("back",), ["drop"],
    ("drop", ()), ("drop", "io"), ("back", ("io",)), ("drop", "drop"), ("keep",), ("keep", ()), ("keep", "io"),
    ("keep", ["io"]), ["keep", ("io",)], ("keep", ("cpu",)), ("keep", ("io", "cpu")), ("keep", ("io",), 1),
    ("keep", (("io",),)), ("keep", ("*",)), ("keep", ("io", None)), ("keep", (1,)), ("keep", None), ("KEEP", ("io",)),
    ("raise",), ["raise", "*"], ("raise", "*", "*"), ("raise", ()), ("Raise", "io"), (("raise",), "io"),
    *[("raise", form) for form in NO_FORMS], *[("raise", form) for form in TWO_STARS],
    ("pass",), ("pass", None), ("pass", "drop"), ("pass", []), ["pass", ()], ("pass", (), ()), ("pass", ((),)),
    ("pass", list(G)), ("pass", (G,)), ("pass", ((("io",), "drop"), 5)), ("pass", ((("cpu",), "drop"),)),
    ("pass", ((("io",), ("pass", ((("io",), "keep"),))),)), ("pass", ((("io",), ("pass", ((("io",), "drop"), ()))),)),
    (None, ("io",)), (0, ("io",)), ("io", ("io",)),
]
BAD_NAMES = [
    (), [], ["io"], "io", "", None, True, 1, ("cpu",), ("io", "cpu"), ("cpu", "io"), ("io", None), ("io", 1), (("io",),),
    ("io", ["net"]), ("IO",), ("*",), ("",), ("abcdefghi",), ("io", True),
]
BAD_CLAUSES = [
    None, True, 0, "io", "drop", (), [], (("io",),), ("io", "drop"), [("io",), "drop"], (("io",), "drop", "drop"),
    ("drop", ("io",)), (("io",), "drop", ()), ("drop",),
    *[(names, "drop") for names in BAD_NAMES], *[(("io",), action) for action in BAD_ACTIONS],
    *[(names, ("pass", ())) for names in BAD_NAMES],
]
BAD_GUARDS = [
    None, True, 0, "io", "", "drop", [], list(G), [()], G[0], as_lists(G), (G,), ((),), ((), ()),
    *[(clause,) for clause in BAD_CLAUSES], *[(G[0], clause, G[1]) for clause in BAD_CLAUSES],
]
BAD_STACKS = [
    None, True, False, 0, 1, "io", "", "drop", "*", [], [()], [G], G, H, P, G[0], as_lists((G,)), (list(G),), as_lists((G, P)),
    *[(guard,) for guard in BAD_GUARDS], *[(G, guard, H) for guard in BAD_GUARDS],
]
STACKS = [
    (), ((),), ((), ()), (G,), (G, H, P), (G, (), P), (P, P), (INNER,), ((*G, *G, *G, *G, *G, *G),), (G, H, P, G, H, P),
    *[(((("io", "both", "io"), action),),) for action in GOOD_ACTIONS],
    *[(G, (G[1], (("disk",), action), G[0])) for action in GOOD_ACTIONS],
]


def all_addresses(guard, place):
    found = []
    for c, (_, action) in enumerate(guard):
        found.append(place + (c,))
        if action[0] == "pass":
            found.extend(all_addresses(action[1], place + (c,)))
    return found


class TestIsForm(unittest.TestCase):

    def test_forms(self):
        for form in FORMS:
            self.assertIs(is_form(K, form), True)

    def test_a_star_occurs_at_most_once(self):
        for form in TWO_STARS:
            self.assertIs(is_form(K, form), False)

    def test_anything_else(self):
        for thing in [*NO_FORMS, *[thing for thing in UNLIKE if thing != "*"]]:
            self.assertIs(is_form(K, thing), False)

    def test_a_list_is_no_tuple_at_any_level(self):
        for form in FORMS:
            if isinstance(form, tuple):
                self.assertIs(is_form(K, as_lists(form)), False)
                self.assertIs(is_form(K, ("m", ("net", as_lists(form)))), False)

    def test_the_kinds_are_those_of_the_table(self):
        self.assertIs(is_form(Kinds(), "*"), True)
        self.assertIs(is_form(Kinds(), ("m", ("*",))), True)
        self.assertIs(is_form(Kinds(), "io"), False)
        self.assertIs(is_form(Kinds(io=()), ("m", ("io", "*"))), True)
        self.assertIs(is_form(Kinds(io=()), ("m", ("net", "*"))), False)
        self.assertIs(is_form(Kinds(io=()), ("net", ("io",))), True)

    def test_values_that_are_greater(self):
        self.assertIs(is_form(K, ("m", ("io",) * 20000)), True)
        self.assertIs(is_form(K, ("m", ("io",) * 20000 + ("*", "*"))), False)
        for depth in (13, 61, 100):
            self.assertIs(is_form(K, nested("*", depth, lambda form: ("", (form, "io")))), True)
            self.assertIs(is_form(K, nested("cpu", depth, lambda form: ("", (form, "io")))), False)

    def test_arguments_by_name(self):
        self.assertIs(is_form(kinds=K, thing="*"), True)
        self.assertIs(is_form(thing="**", kinds=K), False)


class TestIsStack(unittest.TestCase):

    def test_stacks(self):
        for stack in STACKS:
            with self.subTest(stack):
                self.assertIs(is_stack(K, stack), True)

    def test_anything_else(self):
        for thing in BAD_STACKS:
            with self.subTest(thing):
                self.assertIs(is_stack(K, thing), False)
        for thing in UNLIKE:
            if thing not in ((), ((),)):
                self.assertIs(is_stack(K, thing), False)

    def test_the_first_guard_and_the_first_clause_are_looked_at_too(self):
        for guard in BAD_GUARDS:
            self.assertIs(is_stack(K, (guard, G)), False)
            self.assertIs(is_stack(K, (G, guard)), False)
        for clause in BAD_CLAUSES:
            self.assertIs(is_stack(K, ((clause, *G),)), False)
            self.assertIs(is_stack(K, ((*G, clause),)), False)

    def test_inner_guards(self):
        for clause in BAD_CLAUSES:
            inner = (G[0], clause)
            for _ in range(3):
                inner = ((("io",), ("pass", inner)), (("net",), "drop"))
                self.assertIs(is_stack(K, (inner,)), False)
        for action in GOOD_ACTIONS:
            inner = (G[0], (("net", "net"), action))
            for _ in range(3):
                inner = ((("io",), ("pass", inner)), (("net",), "drop"))
                self.assertIs(is_stack(K, (inner,)), True)

    def test_two_forms_of_a_stack_may_have_a_star_each(self):
        clause = (("io",), ("raise", "*"))
        self.assertIs(is_stack(K, ((clause, clause), (clause,))), True)

    def test_the_kinds_are_those_of_the_table(self):
        self.assertIs(is_stack(Kinds(), ()), True)
        self.assertIs(is_stack(Kinds(), ((), ())), True)
        self.assertIs(is_stack(Kinds(), (G,)), False)
        self.assertIs(is_stack(Kinds(net=()), (G[:1],)), True)
        self.assertIs(is_stack(Kinds(net=()), (G,)), False)
        self.assertIs(is_stack(Kinds(io=()), (H,)), False)
        self.assertIs(is_stack(Kinds(io=(), net=()), (H,)), True)
        self.assertIs(is_stack(Kinds(io=(), net=()), (P,)), False)

    def test_values_that_are_greater(self):
        self.assertIs(is_stack(K, (G,) * 5000), True)
        self.assertIs(is_stack(K, (G,) * 5000 + (5,)), False)
        self.assertIs(is_stack(K, (G * 5000,)), True)
        self.assertIs(is_stack(K, ((("io",) * 5000, "drop"),)), False)
        self.assertIs(is_stack(K, (((("io",) * 5000, "drop"),),)), True)
        for depth in (13, 61, 100):
            for inner, expected in ((G, True), (5, False)):
                guard = nested(inner, depth, lambda guard: ((("io",), ("pass", guard)),))
                self.assertIs(is_stack(K, (guard,)), expected)

    def test_arguments_by_name(self):
        self.assertIs(is_stack(kinds=K, thing=(G,)), True)
        self.assertIs(is_stack(thing=G, kinds=K), False)


class TestAddresses(unittest.TestCase):

    def test_the_example_of_the_document(self):
        self.assertEqual(addresses(K, (G, P)), [(0, 0), (0, 1), (1, 0), (1, 0, 0)])

    def test_stacks_without_clauses(self):
        for stack in ((), ((),), ((), (), ())):
            self.assertEqual(addresses(K, stack), [])

    def test_guards_without_clauses_count(self):
        self.assertEqual(addresses(K, ((), G, (), H)), [(1, 0), (1, 1), (3, 0)])
        self.assertEqual(addresses(K, (((("io",), ("pass", ())), (("io",), "drop")),)), [(0, 0), (0, 1)])

    def test_inner_guards(self):
        self.assertEqual(addresses(K, (INNER, P)), [(0, 0), (0, 1), (0, 1, 0), (0, 1, 1), (1, 0), (1, 0, 0)])

    def test_a_keep_and_a_raise_have_no_inner_clauses(self):
        guard = ((("io",), ("keep", ("io", "net"))), (("io",), ("raise", ("m", ("*", "io")))))
        self.assertEqual(addresses(K, (guard,)), [(0, 0), (0, 1)])

    def test_more_than_ten_clauses_and_guards(self):
        stack = (G * 6, *[()] * 9, H, P * 12)
        expected = [(0, k) for k in range(12)] + [(10, 0)]
        for k in range(12):
            expected += [(11, k), (11, k, 0)]
        self.assertEqual(addresses(K, stack), expected)

    def test_all_stacks(self):
        for stack in STACKS:
            expected = [row for g, guard in enumerate(stack) for row in all_addresses(guard, (g,))]
            self.assertEqual(addresses(K, stack), expected)
            self.assertEqual(addresses(K, stack), sorted(expected))

    def test_inner_guards_that_are_100_deep(self):
        guard = nested((), 100, lambda guard: ((("io",), "drop"), (("io",), ("pass", guard))))
        expected = []
        for depth in range(100):
            expected += [(0, *[1] * depth, 0), (0, *[1] * depth, 1)]
        self.assertEqual(addresses(K, (guard,)), sorted(expected))

    def test_values_that_are_no_stacks(self):
        for thing in [*BAD_STACKS, *[thing for thing in UNLIKE if thing not in ((), ((),))]]:
            with self.assertRaises(NoStack) as caught:
                addresses(K, thing)
            self.assertEqual(caught.exception.stack, thing)
            self.assertIs(type(caught.exception.stack), type(thing))

    def test_the_kinds_are_those_of_the_table(self):
        with self.assertRaises(NoStack) as caught:
            addresses(Kinds(net=()), (G,))
        self.assertEqual(caught.exception.stack, (G,))

    def test_every_list_is_a_new_one(self):
        stack = (G, P)
        found = addresses(K, stack)
        found.clear()
        self.assertEqual(addresses(K, stack), [(0, 0), (0, 1), (1, 0), (1, 0, 0)])
        self.assertIs(type(addresses(K, ())), list)

    def test_arguments_are_unchanged(self):
        wrong = [[["io"], "drop"]]
        kinds = Kinds(io=(), net=("io",))
        for call in (is_form, is_stack):
            self.assertIs(call(kinds, wrong), False)
        with self.assertRaises(NoStack):
            addresses(kinds, wrong)
        self.assertEqual(wrong, [[["io"], "drop"]])
        self.assertEqual(kinds, Kinds(io=(), net=("io",)))

    def test_arguments_by_name(self):
        self.assertEqual(addresses(kinds=K, stack=(H,)), [(0, 0)])


class TestBothTogether(unittest.TestCase):

    def test_a_clause_may_raise_exactly_the_forms(self):
        for thing in itertools.chain(FORMS, NO_FORMS, TWO_STARS, UNLIKE):
            self.assertIs(is_stack(K, (((("io",), ("raise", thing)),),)), is_form(K, thing))


if __name__ == "__main__":
    unittest.main()
