import itertools
import unittest

from errorplaces.errors import NoNames, NoStack, NoTree, Unlike
from errorplaces.kinds import Kinds
from errorplaces.running import handled
from errorplaces.tables import Table
from errorplaces.templates import is_template
from cases import Case
from made import BASES, EDGES, FAMILIES, ONE_CLAUSE, Maker, under_all
from reckoning import Reckoner
from samples import G, H, K, P, T, UNLIKE, as_lists, nested

RECKONER = Reckoner(BASES)
SETS = under_all(BASES)
STACKS = [*ONE_CLAUSE, *EDGES]
TREES = [
    T, ("io", 3), ("net", 0), ("disk", 7), ("both", 1), ("m", (("both", 5),)), ("", (("", (("disk", 0),)), ("net", 0))),
    ("", (("net", 1), ("net", 1), ("x", (("net", 1), ("io", 1))), ("both", 1), ("disk", 1))),
    ("wide", tuple([(K.order[k % 4], k % 5) for k in range(60)])), nested(("net", 1), 100, lambda tree: ("", (tree, ("io", 2)))),
]
NO_GUARDS = [thing for thing in [*UNLIKE, list(G), (G,), G[0], "drop", ((("cpu",), "drop"),), as_lists(G)] if thing != ()]
NO_NAMES = [thing for thing in UNLIKE if not (isinstance(thing, (tuple, list)) and len(thing) == 1 and thing[0] == "net")]
NO_NAMES += ["net", "io", {"net": 1}, ["net", "net"], ("io", "net", "io"), ["cpu"], ["net", "cpu"], ["net", None], [("net",)], [["net"]],
             ("net", 1), ["*"], [""], ["NET"], ["net", "io", "disk", "both", "net"]]


class TestRows(Case):

    def test_the_examples_of_the_document(self):
        self.assertEqual(Table(K, G, H).row(["io", "net"]), ("", (("note", (("*", ("io",)), ("net", 0))),)))
        self.assertEqual([Table(K, G).row([name], bare=True) for name in ["io", "disk", "net"]],
                         [("*", ("io",)), ("", (("*", ("disk",)),)), None])

    def test_the_bare_row_and_the_other_row_of_a_kind_differ(self):
        table = Table(K, ((("net",), "back"),))
        self.assertEqual((table.row(["net"], bare=True), table.row(["net"])), (("", (("*", ("net",)),)), ("*", ("net",))))
        self.assertEqual((table.row(["io"], bare=True), table.row(["io"])), (("*", ("io",)),) * 2)
        up = Table(K, ((("net",), ("raise", "*")),))
        self.assertEqual((up.row(["net"], bare=True), up.row(["net"])),
                         (("", (("", (("*", ("net",)),)),)), ("", (("*", ("net",)),))))

    def test_the_stack_without_guards(self):
        for table in (Table(K), Table(K, ()), Table(K, (), ())):
            for names in SETS:
                self.assertEqual(table.row(names), ("*", names))
            for name in K.order:
                self.assertEqual(table.row([name], bare=True), ("*", (name,)))

    def test_a_row_is_none_if_there_is_no_outcome(self):
        table = Table(K, ((("net",), "drop"),))
        for names in (["net"], ["both"], ["net", "both"]):
            self.assertIsNone(table.row(names))
        self.assertIsNone(table.row(["net"], bare=True))
        self.assertEqual(table.row(["net", "io"]), ("*", ("io",)))

    def test_holes_with_several_kinds(self):
        guard = ((("net",), ("raise", ("n", ("*", "io")))), (("disk",), "drop"))
        table = Table(K, guard, ((("both",), "back"), (("io",), ("raise", ("o", ("*",))))))
        self.assertEqual(Table(K, guard).row(["both", "net", "disk", "io"]),
                         ("", (("n", (("*", ("both", "net")), ("io", 0))), ("*", ("io",)))))
        self.assertEqual(table.row(["both", "net", "disk", "io"]), ("", (
            ("o", (("", (("n", (("*", ("net",)), ("io", 0))), ("*", ("io",)))),)), ("", (("n", (("*", ("both",)),)),)))))

    def test_names_in_any_order_in_lists_and_tuples(self):
        table = Table(K, G, P)
        for names in SETS:
            for order in itertools.permutations(names):
                self.assertEqual(table.row(order), table.row(names))
                self.assertEqual(table.row(list(order)), table.row(names))

    def test_all_rows_of_many_stacks(self):
        for stack in STACKS:
            table = Table(K, *stack)
            for names in SETS:
                self.assertEqual(table.row(names), RECKONER.row(stack, names), (stack, names))
            for name in K.order:
                self.assertEqual(table.row([name], bare=True), RECKONER.bare_row(stack, name), (stack, name))

    def test_all_rows_of_made_stacks_of_all_families(self):
        for n, bases in enumerate(FAMILIES):
            maker, reckoner = Maker(60 + n, bases), Reckoner(bases)
            for stack in maker.stacks(80 if len(bases) < 7 else 8):
                table = Table(maker.kinds, *stack)
                for names in under_all(bases):
                    self.assertEqual(table.row(names), reckoner.row(stack, names))
                for name in bases:
                    self.assertEqual(table.row([name], bare=True), reckoner.bare_row(stack, name))

    def test_every_row_is_a_template_of_its_kinds(self):
        for stack in STACKS:
            for names, is_bare, row in Table(K, *stack).rows():
                if row is not None:
                    self.assertIs(is_template(K, row), True)
                    self.assertLessEqual(set(self.holes(row)), set(names))

    def holes(self, template):
        head, inner = template
        if head == "*":
            return inner
        return [] if inner == 0 else [name for child in inner for name in self.holes(child)]

    def test_row_takes_bare_by_name_only(self):
        self.assertEqual(Table(K).row(names=["io"], bare=False), ("*", ("io",)))
        with self.assertRaises(TypeError):
            Table(K).row(["io"], True)


class TestAllRows(Case):

    def test_the_order_of_the_rows(self):
        found = [(names, is_bare) for names, is_bare, _ in Table(K, G).rows()]
        expected = []
        for many in range(1, 5):
            for names in itertools.combinations(("both", "disk", "io", "net"), many):
                expected += [(names, True), (names, False)] if many == 1 else [(names, False)]
        self.assertEqual(found, expected)
        self.assertEqual(found[:4], [(("both",), True), (("both",), False), (("disk",), True), (("disk",), False)])

    def test_the_rows_are_those_of_row(self):
        for stack in STACKS:
            table = Table(K, *stack)
            for names, is_bare, row in table.rows():
                self.assertEqual(row, table.row(names, bare=is_bare))
                self.assertEqual((type(names), type(is_bare)), (tuple, bool))

    def test_the_number_of_rows(self):
        for bases, many in zip(FAMILIES, [19, 2, 5, 10, 134]):
            table = Table(Kinds(**bases))
            self.assertEqual((len(table), len(list(table.rows())), repr(table)), (many, many, f"Table({many} rows)"))
            self.assertEqual(many, 2 ** len(bases) + len(bases) - 1)

    def test_a_table_without_kinds(self):
        table = Table(Kinds(), (), ())
        self.assertEqual((len(table), repr(table), list(table.rows())), (0, "Table(0 rows)", []))
        self.assertTrue(table == Table(Kinds()) == table.then(table))
        self.told(NoNames, "names", [], table.row, [])
        self.told(NoNames, "names", ["io"], table.row, ["io"])
        self.told(NoTree, "tree", ("io", 1), table.outcome, ("io", 1))

    def test_seven_kinds_and_several_guards(self):
        maker, reckoner = Maker(70, FAMILIES[-1]), Reckoner(FAMILIES[-1])
        for _ in range(3):
            stack = tuple([tuple([(maker.some(2), maker.action(2)) for _ in range(6)]) for _ in range(6)])
            table = Table(maker.kinds, *stack)
            self.assertEqual((len(table), repr(table)), (134, "Table(134 rows)"))
            for names, is_bare, row in table.rows():
                self.assertEqual(row, reckoner.bare_row(stack, names[0]) if is_bare else reckoner.row(stack, names))

    def test_the_values_are_yielded_one_by_one(self):
        steps = Table(K, G).rows()
        self.assertIs(iter(steps), steps)
        self.assertEqual(next(steps), (("both",), True, None))
        self.assertEqual(len(list(steps)), 18)
        self.assertEqual(list(steps), [])

    def test_two_generators_one_within_the_other(self):
        one, other = Table(K, G, H), Table(K, P)
        first, second = list(one.rows()), list(other.rows())
        self.assertEqual([(a, b) for a in one.rows() for b in other.rows()], list(itertools.product(first, second)))
        self.assertEqual([(a, b) for a in one.rows() for b in one.rows()], list(itertools.product(first, first)))
        self.assertNotEqual(first, second)

    def test_two_generators_in_turn(self):
        table = Table(K, G)
        one = table.rows()
        found = [next(one)]
        other = table.rows()
        found += [next(other), next(other), next(one), next(one)]
        first, second, third = list(table.rows())[:3]
        self.assertEqual(found, [first, first, second, second, third])


class TestOutcome(Case):

    def test_a_table_is_called_like_its_method(self):
        table = Table(K, G, H)
        for tree in TREES:
            self.assertEqual(table(tree), table.outcome(tree))
        self.assertEqual(table(tree=T), table.outcome(tree=T))
        self.assertEqual(table(T), ("", (("note", (("all", (("sub", (("disk", 2), ("io", 3))),)), ("net", 0))),)))

    def test_outcomes_are_those_of_the_stack(self):
        for stack in STACKS:
            table = Table(K, *stack)
            for tree in TREES:
                self.assertEqual(table.outcome(tree), RECKONER.outcome(stack, tree), (stack, tree))
                self.assertEqual(table(tree), handled(K, stack, tree))

    def test_a_bare_leaf(self):
        table = Table(K, G)
        self.assertEqual([table(leaf) for leaf in [("io", 3), ("disk", 2), ("net", 1)]], [("io", 3), ("", (("disk", 2),)), None])
        self.assertEqual(table(("m", (("disk", 2),))), ("m", (("disk", 2),)))

    def test_trees_that_are_none(self):
        table = Table(K, G)
        for thing in [*UNLIKE, ("*", ("io",)), ("m", ()), as_lists(T), ("cpu", 1), ("io", -1), ("io", True)]:
            if thing != ("net", (("net", 1),)):
                self.told(NoTree, "tree", thing, table.outcome, thing)
                self.told(NoTree, "tree", thing, table, thing)

    def test_the_kinds_are_those_of_the_table(self):
        table = Table(Kinds(net=()))
        self.assertEqual(table(("net", 4)), ("net", 4))
        self.told(NoTree, "tree", T, table, T)


class TestThen(Case):

    def test_the_example_of_the_document(self):
        self.assertIs(Table(K, G).then(Table(K, H)) == Table(K, G, H), True)

    def test_without_others(self):
        for stack in STACKS:
            table = Table(K, *stack)
            self.assertEqual(table.then(), table)
            self.assertIsNot(table.then(), table)

    def test_with_one_other(self):
        tables = [(stack, Table(K, *stack)) for stack in [*EDGES, *ONE_CLAUSE[::3]]]
        for (one, first), (other, second) in itertools.product(tables, tables):
            self.assertTrue(first.then(second) == Table(K, *one, *other), (one, other))

    def test_with_several_others(self):
        maker = Maker(80)
        for _ in range(60):
            stacks = maker.stacks(4)
            tables = [Table(K, *stack) for stack in stacks]
            whole = Table(K, *itertools.chain.from_iterable(stacks))
            self.assertEqual(tables[0].then(*tables[1:]), whole)
            self.assertEqual(tables[0].then(tables[1]).then(tables[2].then(tables[3])), whole)

    def test_made_stacks_of_all_families(self):
        for n, bases in enumerate(FAMILIES):
            maker = Maker(90 + n, bases)
            for one, other in zip(maker.stacks(30), maker.stacks(30)):
                found = Table(maker.kinds, *one).then(Table(maker.kinds, *other))
                self.assertEqual(list(found.rows()), list(Table(maker.kinds, *one, *other).rows()))

    def test_a_row_none_stays_none(self):
        nothing, up = Table(K, ((("io",), "drop"),)), Table(K, ((("io",), ("raise", "net")),))
        for names, is_bare, row in nothing.then(up).rows():
            self.assertIsNone(row)
        for names, is_bare, row in up.then(nothing).rows():
            self.assertIsNone(row)

    def test_bare_rows(self):
        back, up = Table(K, ((("net",), "back"),)), Table(K, ((("net",), ("raise", "*")),))
        untouched = Table(K, ((("disk",), "drop"),))
        self.assertEqual(untouched.then(up).row(["net"], bare=True), up.row(["net"], bare=True))
        self.assertEqual(back.then(up).row(["net"], bare=True), ("", (("", (("*", ("net",)),)),)))
        self.assertEqual(back.then(up).row(["net"]), ("", (("*", ("net",)),)))

    def test_a_composed_table_is_a_table_like_others(self):
        table = Table(K, G).then(Table(K, H))
        self.assertEqual((table.kinds, len(table), repr(table)), (K, 19, "Table(19 rows)"))
        self.assertEqual([table(tree) for tree in TREES], [Table(K, G, H)(tree) for tree in TREES])
        self.assertEqual(table.then(Table(K, P)), Table(K, G, H, P))

    def test_tables_stay_as_they_are(self):
        one, other = Table(K, G), Table(K, H)
        composed = one.then(other, one)
        self.assertEqual((one, other), (Table(K, G), Table(K, H)))
        composed.then(other)
        self.assertEqual(composed, Table(K, G, H, G))

    def test_unequal_kinds(self):
        like, unlike = Table(K, G), Table(Kinds(io=()))
        for call in (lambda: like.then(unlike), lambda: unlike.then(like), lambda: like.then(like, unlike),
                     lambda: like.then(unlike, like), lambda: like.then(like, Table(Kinds()), unlike)):
            with self.assertRaises(Unlike):
                call()
        self.assertEqual(like, Table(K, G))
        other_order = Kinds(io=(), disk=("io",), net=("io",), both=("net", "disk"))
        other_bases = Kinds(io=(), net=("io",), disk=("io",), both=("net",))
        for kinds in (other_order, other_bases):
            with self.assertRaises(Unlike):
                like.then(Table(kinds, G))

    def test_equal_kinds_that_are_other_objects(self):
        kinds = Kinds.of([("io", ()), ("net", ["io"]), ("disk", ["io"]), ("both", ["disk", "net"])])
        self.assertEqual(Table(K, G).then(Table(kinds, H)), Table(kinds, G, H))


class TestTable(Case):

    def test_equality(self):
        same = [[(), ((),), ((), ())], [(G,), (G, ()), ((), G), (G + ((("both",), "drop"),),)], [(H,)], [(G, H)], [(H, G)], [(P,)]]
        tables = [(k, Table(K, *stack)) for k, stacks in enumerate(same) for stack in stacks]
        for (k, one), (j, other) in itertools.product(tables, tables):
            self.assertIs(one == other, k == j)
            self.assertIs(one != other, k != j)

    def test_tables_that_differ_in_a_bare_row_alone(self):
        back, none = Table(K, ((("net",), "back"),)), Table(K)
        self.assertFalse(back == none)
        self.assertEqual([back.row(names) for names in SETS], [none.row(names) for names in SETS])

    def test_tables_of_unequal_kinds(self):
        tables = [Table(Kinds(**bases)) for bases in (
            {}, dict(a=()), dict(b=()), dict(a=(), b=()), dict(b=(), a=()), dict(a=(), b=("a",)))]
        for (k, one), (j, other) in itertools.product(enumerate(tables), enumerate(tables)):
            self.assertIs(one == other, k == j)
        self.assertTrue(Table(Kinds(a=(), b=(), c=("a", "b"))) == Table(Kinds(a=(), b=(), c=["b", "a"])))

    def test_a_table_is_unequal_to_anything_else(self):
        for table in (Table(Kinds()), Table(K, G)):
            for thing in [*UNLIKE, Table, K, Kinds(), {}, list(table.rows()), "Table(19 rows)", object()]:
                self.assertFalse(table == thing)
                self.assertFalse(thing == table)
                self.assertTrue(table != thing)

    def test_the_kinds(self):
        for bases in FAMILIES:
            self.assertEqual(Table(Kinds(**bases)).kinds, Kinds(**bases))

    def test_it_is_made_by_position_and_by_name(self):
        self.assertEqual(Table(kinds=K), Table(K))

    def test_two_tables_share_no_state(self):
        one, other = Table(K, G), Table(K, H)
        first, second = list(one.rows()), list(other.rows())
        one.then(other)
        self.assertEqual((list(one.rows()), list(other.rows())), (first, second))


class TestErrors(Case):

    def test_guards_that_are_none(self):
        for thing in NO_GUARDS:
            for guards in ((thing,), (thing, thing), (G, thing), (thing, G), (G, (), thing)):
                self.told(NoStack, "stack", guards, Table, K, *guards)

    def test_the_guards_are_of_the_kinds(self):
        self.told(NoStack, "stack", (G,), Table, Kinds(net=()), G)
        self.told(NoStack, "stack", ((), G), Table, Kinds(), (), G)

    def test_names_that_are_none(self):
        table = Table(K, G)
        for names in NO_NAMES:
            self.told(NoNames, "names", names, table.row, names)
            self.told(NoNames, "names", names, table.row, names, bare=False)
            self.told(NoNames, "names", names, table.row, names, bare=True)

    def test_a_bare_row_has_just_one_name(self):
        table = Table(K, G)
        for names in SETS:
            if len(names) > 1:
                self.told(NoNames, "names", names, table.row, names, bare=True)
                self.told(NoNames, "names", list(names), table.row, list(names), bare=True)
        self.told(NoNames, "names", ["net", "net"], table.row, ["net", "net"], bare=True)

    def test_arguments_are_unchanged_and_copied(self):
        names, wrong = ["net", "io"], [["io"], "drop"]
        table = Table(K, G)
        table.row(names)
        with self.assertRaises(NoStack) as caught:
            Table(K, wrong)
        with self.assertRaises(NoTree):
            table(wrong)
        with self.assertRaises(NoNames):
            table.row(names, bare=True)
        self.assertEqual((names, wrong), (["net", "io"], [["io"], "drop"]))
        wrong[0].append("net")
        self.assertEqual(caught.exception.stack, ([["io"], "drop"],))

    def test_a_call_that_raises_changes_nothing(self):
        table = Table(K, G)
        before = list(table.rows())
        for call in (lambda: table.row([]), lambda: table(None), lambda: table.then(Table(Kinds()))):
            with self.assertRaises((NoNames, NoTree, Unlike)):
                call()
        self.assertEqual((list(table.rows()), table), (before, Table(K, G)))


if __name__ == "__main__":
    unittest.main()
