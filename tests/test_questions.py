import itertools
import unittest

from errorplaces.errors import NoStack, Unlike
from errorplaces.handlers import addresses
from errorplaces.kinds import Kinds
from errorplaces.questions import added, drops, idle, spare, telling
from errorplaces.running import handled
from errorplaces.tables import Table
from errorplaces.texts import read_stack, show_template
from errorplaces.trees import is_tree
from cases import Case
from made import BASES, EDGES, FAMILIES, FIVE, ONE_CLAUSE, Maker
from reckoning import Asker, Reckoner, all_addresses, grown, left_out, spots
from samples import G, H, K, NO_STACKS, P, nested

ASKER = Asker(BASES)
RECKONER = Reckoner(BASES)
STACKS = [*EDGES, *ONE_CLAUSE, *Maker(700).stacks(80)]


def take(names, action):
    return ((names, action),)


def tell(one, other, kinds=K):
    return telling(Table(kinds, *one), Table(kinds, *other))


def small_trees(names, many):
    """Trees with so many leaves, of many shapes."""
    for chosen in itertools.product(names, repeat=many):
        leaves = tuple([(name, number) for number, name in enumerate(chosen)])
        if many == 1:
            yield leaves[0]
        yield ("m", leaves)
        yield ("", (("", leaves),))
        yield ("m", tuple([("n", (leaf,)) for leaf in leaves]))
        yield ("m", (leaves[0], ("", leaves[1:]))) if many > 1 else ("", (("m", (leaves[0],)),))


class TestTelling(Case):

    def check(self, one, other, asker=ASKER, kinds=K):
        """What is returned tells them apart, with the fewest leaves. The number of these is returned."""
        tree = tell(one, other, kinds)
        fewest = asker.fewest(one, other)
        if fewest is None:
            self.assertIsNone(tree)
            return None
        self.assertIs(is_tree(kinds, tree), True)
        self.assertEqual(len(spots(grown(tree))), fewest)
        reckoner = Reckoner(asker.bases)
        self.assertNotEqual(reckoner.outcome(one, tree), reckoner.outcome(other, tree))
        self.assertNotEqual(handled(kinds, one, tree), handled(kinds, other, tree))
        self.assertNotEqual(Table(kinds, *one)(tree), Table(kinds, *other)(tree))
        return fewest

    def test_equal_tables(self):
        for stack in STACKS:
            table = Table(K, *stack)
            self.assertIsNone(telling(table, table))
            self.assertIsNone(telling(table, Table(K, *stack)))
            self.assertIsNone(telling(table, Table(K).then(table, Table(K))))

    def test_unlike_stacks_with_equal_tables(self):
        for one, other in [
                ((), ((), ())), ((G, take(("net",), "drop")), (G,)), ((take(("io",), "drop"),), (take(("io",), "drop"), H, P)),
                ((take(("net", "disk"), "back"),), (((("net",), "back"), (("disk",), "back")),)),
                ((take(("io",), ("pass", take(("net",), "drop"))),), (((("net",), "drop"), (("io",), "back")),))]:
            self.assertIsNone(tell(one, other))
            self.assertIsNone(tell(other, one))

    def test_tables_without_kinds(self):
        self.assertIsNone(tell((), (), Kinds()))
        self.assertIsNone(tell((), ((), ()), Kinds()))

    def test_tables_that_differ_in_a_bare_row_alone(self):
        for name, kind in (("both", "both"), ("net", None), ("io", None)):
            guard = take((name,), "back")
            for one, other in (((), (guard,)), ((guard,), ()), (((), ()), ((), guard, ()))):
                rows = zip(Table(K, *one).rows(), Table(K, *other).rows())
                self.assertEqual({found[1] for found, expected in rows if found != expected}, {True})
                tree = tell(one, other)
                self.assertIsInstance(tree[1], int)
                self.assertIn(tree[0], K.below(name))
                self.assertEqual(self.check(one, other), 1)

    def test_one_leaf_in_a_group(self):
        # A bare leaf is put into a group by the first guard, so that only groups of one leaf tell these apart.
        up = take(("io",), ("raise", ("n", ("*",))))
        self.assertEqual(self.check((take(("io",), "back"), up), (up,)), None)
        self.assertEqual(self.check((take(("io",), ("keep", ("net",))),), (take(("io",), "drop"),)), 1)
        self.assertEqual(self.check((take(("io",), ("raise", "*")),), (take(("io",), ("raise", ("", ("*",)))),)), 1)

    def test_two_leaves(self):
        up, down = (("net",), ("raise", "*")), (("disk",), ("raise", "*"))
        one, other = ((up, down),), ((down, up),)
        self.assertEqual(self.check(one, other), 2)
        together = (take(("net", "disk"), ("raise", ("m", ("*", "io")))),)
        apart = (((("net",), ("raise", ("m", ("*", "io")))), (("disk",), ("raise", ("m", ("*", "io"))))),)
        self.assertEqual(self.check(together, apart), 2)
        for small in small_trees(K.order, 1):
            self.assertEqual(handled(K, one, small), handled(K, other, small))
            self.assertEqual(handled(K, together, small), handled(K, apart, small))

    def test_three_leaves(self):
        # How many new leaves there are is the same for any two of x, y and z, and differs for all three.
        bases = dict(x=(), y=(), z=(), p=(), q=(), r=(), s=())
        kinds = Kinds(**bases)

        def stack(x, y, z):
            rows = [((name,), ("raise", ("", made))) for name, made in (("x", x), ("y", y), ("z", z))]
            return (take(("p", "q", "r", "s"), "drop"), tuple(rows), tuple([((name,), ("raise", "x")) for name in "pqrs"]))

        one, other = stack(("p", "q"), ("p", "r"), ("q", "r")), stack(("p", "q"), ("p", "r"), ("p", "s"))
        tree = tell(one, other, kinds)
        self.assertEqual(sorted([leaf.kind for _, leaf in spots(grown(tree))]), ["x", "y", "z"])
        self.assertEqual(self.check(one, other, Asker(bases), kinds), 3)
        for many in (1, 2):
            for small in small_trees("xyz", many):
                self.assertEqual(handled(kinds, one, small), handled(kinds, other, small))

    def test_new_leaves_are_not_the_leaves_of_the_tree(self):
        self.assertEqual(self.check((take(("io",), ("raise", "io")),), (take(("io",), ("raise", "*")),)), 1)
        self.assertEqual(self.check((take(("io",), ("raise", ("tree", ("io",)))),), (take(("io",), ("raise", "*")),)), 1)

    def test_messages_of_forms_are_not_those_of_the_tree(self):
        for message in ("", "tree", "m", "n", "all", "group", "a"):
            up = take(("io",), ("raise", "*"))
            self.assertEqual(self.check((up,), (take(("io",), ("raise", (message, ("*",)))),)), 1)
            self.assertEqual(self.check((up,), (take(("io",), ("raise", (message, ("io",)))),)), 1)

    def test_many_stacks(self):
        for one, other in itertools.combinations(EDGES, 2):
            self.check(one, other)
        for one, other in zip(ONE_CLAUSE, ONE_CLAUSE[1:]):
            self.check(one, other)

    def test_made_stacks_of_all_families(self):
        for n, bases in enumerate(FAMILIES):
            maker, asker = Maker(710 + n, bases), Asker(bases)
            many = 60 if len(bases) < 7 else 6
            for one, other in zip(maker.stacks(many), maker.stacks(many)):
                self.check(one, other, asker, maker.kinds)

    def test_made_stacks_that_differ_by_one_clause(self):
        maker = Maker(720)
        found = []
        for stack in maker.stacks(150):
            for address in all_addresses(stack):
                found.append(self.check(stack, left_out(stack, address)))
        self.assertLessEqual({1, None}, set(found))

    def test_small_trees_with_fewer_leaves_do_not_tell_them_apart(self):
        maker = Maker(730)
        for one in maker.stacks(60):
            other = tuple([guard[::-1] for guard in one])
            tree = tell(one, other)
            leaves = 3 if tree is None else len(spots(grown(tree)))
            for many in range(1, leaves):
                for small in small_trees(K.order, many):
                    self.assertEqual(RECKONER.outcome(one, small), RECKONER.outcome(other, small))

    def test_unequal_kinds(self):
        unlike = [Kinds(), Kinds(io=()), Kinds(io=(), net=("io",), disk=("io",)), Kinds(net=(), io=()),
                  Kinds(io=(), disk=("io",), net=("io",), both=("net", "disk")), Kinds(io=(), net=("io",), disk=("io",), both=("net",))]
        for kinds in unlike:
            for one, other in ((Table(K), Table(kinds)), (Table(kinds), Table(K)), (Table(K, G), Table(kinds, ()))):
                with self.assertRaises(Unlike) as caught:
                    telling(one, other)
                self.assertIs(type(caught.exception), Unlike)
        for one, other in itertools.permutations(unlike, 2):
            with self.assertRaises(Unlike):
                telling(Table(one), Table(other))

    def test_equal_kinds(self):
        again = Kinds(io=(), net=["io"], disk=("io",), both=["disk", "net"])
        self.assertIsNone(telling(Table(K, G), Table(again, G)))
        self.assertEqual(telling(Table(K), Table(again, take(("both",), "drop")))[0], "both")

    def test_arguments_by_name(self):
        self.assertIsNone(telling(other=Table(K, G), one=Table(K, G)))


class TestDrops(Case):

    def test_the_example_of_the_document(self):
        self.assertEqual(drops(K, (G, H)), {"io": None, "net": (0, 0), "disk": None, "both": (0, 0)})

    def test_nothing_is_dropped(self):
        for stack in ((), ((),), ((), ()), (take(("io",), "back"),), (H, H), (take(("io",), ("pass", ())),)):
            self.assertEqual(drops(K, stack), dict.fromkeys(K.order))

    def test_each_action(self):
        for action, address in [
                ("drop", (0, 0)), ("back", None), (("keep", ("net",)), None), (("keep", ("both",)), (0, 0)), (("keep", ("disk", "io")), None),
                (("raise", "*"), None), (("raise", "net"), (0, 0)), (("raise", ("n", ("net", ("m", ("*",))))), None),
                (("raise", ("n", ("net",))), (0, 0)), (("pass", ()), None), (("pass", take(("net",), "drop")), (0, 0, 0)),
                (("pass", take(("disk",), "drop")), None), (("pass", (*G[1:], *take(("io",), ("raise", "net")))), (0, 0, 1)),
                (("pass", take(("net",), ("pass", take(("io",), ("keep", ("disk",)))))), (0, 0, 0, 0))]:
            with self.subTest(action):
                self.assertEqual(drops(K, (take(("io",), action),))["net"], address)

    def test_the_first_guard_that_drops(self):
        self.assertEqual(drops(K, ((), H, take(("net",), "drop"), take(("io",), "drop"))),
                         {"io": (3, 0), "net": (2, 0), "disk": (3, 0), "both": (2, 0)})

    def test_inner_guards_are_followed_though_something_is_raised(self):
        inner = ((("both",), "drop"), (("net",), ("raise", "*")))
        self.assertEqual(drops(K, (take(("io",), ("pass", inner)),)), {"io": None, "net": None, "disk": None, "both": (0, 0, 0)})

    def test_the_kinds_of_the_table_in_any_number(self):
        self.assertEqual(drops(Kinds(), ()), {})
        self.assertEqual(drops(Kinds(z=(), a=()), (take(("a",), "drop"),)), {"z": None, "a": (0, 0)})

    def test_many_stacks(self):
        for stack in STACKS:
            self.assertEqual({kind: {address} for kind, address in drops(K, stack).items()}, ASKER.drops(stack), stack)

    def test_made_stacks_of_all_families(self):
        for n, bases in enumerate(FAMILIES):
            maker, asker = Maker(740 + n, bases), Asker(bases)
            for stack in maker.stacks(60 if len(bases) < 7 else 8):
                self.assertEqual({kind: {address} for kind, address in drops(maker.kinds, stack).items()}, asker.drops(stack))

    def test_stacks_that_are_none(self):
        for stack in NO_STACKS:
            self.told(NoStack, "stack", stack, drops, K, stack)

    def test_arguments_by_name(self):
        self.assertEqual(drops(stack=(G,), kinds=K), drops(K, (G,)))


class TestIdle(Case):

    def test_the_example_of_the_document(self):
        self.assertEqual(idle(K, (G, G)), [(1, 0)])

    def test_every_clause_fires(self):
        for stack in ((), ((),), ((), ()), (G,), (H,), (P,), (H, H), (G, take(("io",), ("pass", take(("disk",), "drop"))))):
            self.assertEqual(idle(K, stack), [])

    def test_an_earlier_clause_takes_all(self):
        self.assertEqual(idle(K, (((("io",), "back"), (("net",), "drop"), (("both",), "back")),)), [(0, 1), (0, 2)])
        self.assertEqual(idle(K, (((("net",), "back"), (("disk",), "drop"), (("both",), "back"), (("io",), "back")),)), [(0, 2)])
        self.assertEqual(idle(K, (((("net",), "back"), (("net", "io"), "back"), (("disk", "io"), "drop")),)), [(0, 2)])

    def test_an_outer_clause_takes_nothing_for_it(self):
        inner = ((("io",), "drop"), (("disk",), "back"))
        self.assertEqual(idle(K, (take(("net",), ("pass", ((("both",), "back"), (("disk",), "drop")))),)), [(0, 0, 1)])
        self.assertEqual(idle(K, (take(("net",), ("pass", inner)),)), [(0, 0, 1)])
        self.assertEqual(idle(K, (((("io",), "back"), (("net",), ("pass", inner))),)), [(0, 1), (0, 1, 0), (0, 1, 1)])

    def test_a_guard_before_leaves_nothing(self):
        self.assertEqual(idle(K, (take(("io",), "drop"), G, P)), [(1, 0), (1, 1), (2, 0), (2, 0, 0)])
        self.assertEqual(idle(K, (take(("io",), ("keep", ("net",))), ((("disk",), "back"), (("both",), "back"), (("io",), "drop")))), [(1, 1)])
        self.assertEqual(idle(K, (take(("io",), ("pass", take(("net",), "drop"))), G)), [(1, 0)])

    def test_only_new_leaves_come_there(self):
        only = take(("io",), ("raise", "disk"))
        self.assertEqual(idle(K, (only, ((("net",), "drop"), (("disk",), "drop"), (("io",), "drop")))), [(1, 0), (1, 2)])
        # What is raised within a guard is not taken by it.
        self.assertEqual(idle(K, (((("net",), "drop"), (("io",), ("raise", "net"))), take(("net",), "drop"))), [])
        self.assertEqual(idle(K, (take(("disk",), "drop"), take(("io",), ("raise", ("n", ("*", "io")))), take(("disk",), "back"))), [(2, 0)])

    def test_new_leaves_of_clauses_that_do_not_fire(self):
        self.assertEqual(idle(K, (take(("net",), "drop"), take(("net",), ("raise", "both")), take(("both",), "back"))), [(1, 0), (2, 0)])

    def test_new_leaves_of_inner_guards(self):
        self.assertEqual(idle(K, (take(("io",), "drop"), P, G)), [(1, 0), (1, 0, 0), (2, 0), (2, 1)])
        dropped = take(("disk",), "drop")
        self.assertEqual(idle(K, (dropped, P, G)), [(2, 0)])
        self.assertEqual(idle(K, (dropped, take(("net",), "drop"), P, G)), [(2, 0, 0), (3, 0), (3, 1)])

    def test_many_stacks(self):
        for stack in STACKS:
            self.assertEqual(idle(K, stack), ASKER.idle(stack), stack)

    def test_made_stacks_of_all_families(self):
        for n, bases in enumerate(FAMILIES):
            maker, asker = Maker(750 + n, bases), Asker(bases)
            for stack in maker.stacks(80 if len(bases) < 7 else 8):
                self.assertEqual(idle(maker.kinds, stack), asker.idle(stack), stack)

    def test_without_kinds(self):
        self.assertEqual((idle(Kinds(), ((), ())), spare(Kinds(), ((), ())), added(Kinds(), ((), ()))), ([], [], []))

    def test_stacks_that_are_none(self):
        for stack in NO_STACKS:
            self.told(NoStack, "stack", stack, idle, K, stack)

    def test_arguments_by_name(self):
        self.assertEqual(idle(stack=(G, G), kinds=K), [(1, 0)])


class TestSpare(Case):

    def test_the_example_of_the_document(self):
        self.assertEqual(spare(K, (G, H)), [(0, 1)])

    def test_stacks_without_clauses(self):
        for stack in ((), ((),), ((), ())):
            self.assertEqual(spare(K, stack), [])

    def test_a_clause_whose_only_effect_is_on_bare_leaves(self):
        self.assertEqual(spare(K, (take(("io",), "back"),)), [])
        self.assertEqual(spare(K, (take(("io",), "back"),) * 2), [(0, 0), (1, 0)])
        self.assertEqual(spare(K, (take(("io",), "back"), H)), [(0, 0)])
        self.assertEqual(spare(K, (take(("io",), ("pass", ())), H)), [(0, 0)])

    def test_idle_clauses_can_be_left_out(self):
        for stack in STACKS:
            self.assertLessEqual(set(idle(K, stack)), set(spare(K, stack)))

    def test_each_alone_not_all_together(self):
        twice = (((("net",), "drop"), (("net", "net"), "drop"), (("io",), "back")),)
        self.assertEqual(spare(K, twice), [(0, 0), (0, 1)])
        self.assertEqual(spare(K, (left_out(twice[0:1], (0, 0)))), [])
        self.assertEqual(spare(K, (take(("net",), "drop"),) * 3), [(0, 0), (1, 0), (2, 0)])

    def test_a_clause_that_shields_leaves_from_a_later_one(self):
        self.assertEqual(spare(K, (((("net",), "back"), (("io",), "drop")),)), [])
        self.assertEqual(spare(K, (((("net",), "back"), (("io",), "back")),)), [(0, 0)])
        self.assertEqual(spare(K, (((("both",), "drop"), (("net",), "drop")),)), [(0, 0)])

    def test_clauses_of_inner_guards(self):
        inner = ((("both",), "back"), (("net",), "back"), (("disk",), "drop"))
        self.assertEqual(spare(K, (take(("net",), ("pass", inner)),)), [(0, 0, 0), (0, 0, 1), (0, 0, 2)])
        self.assertEqual(spare(K, (take(("net",), ("pass", take(("net",), "back"))),)), [(0, 0, 0)])
        self.assertEqual(spare(K, (take(("net",), ("pass", take(("net",), "drop"))),)), [])
        deep = take(("io",), ("pass", take(("io",), ("pass", ((("net",), "drop"), (("net",), "back"))))))
        self.assertEqual(spare(K, (deep,)), [(0, 0, 0, 1)])

    def test_many_stacks(self):
        for stack in STACKS:
            self.assertEqual(spare(K, stack), ASKER.spare(stack), stack)

    def test_made_stacks_of_all_families(self):
        for n, bases in enumerate(FAMILIES):
            maker, asker = Maker(760 + n, bases), Asker(bases)
            for stack in maker.stacks(40 if len(bases) < 7 else 3):
                self.assertEqual(spare(maker.kinds, stack), asker.spare(stack), stack)

    def test_the_stack_without_it_has_the_same_table(self):
        for stack in STACKS:
            table = Table(K, *stack)
            for address in addresses(K, stack):
                same = Table(K, *left_out(stack, address)) == table
                self.assertIs(address in spare(K, stack), same)

    def test_stacks_that_are_none(self):
        for stack in NO_STACKS:
            self.told(NoStack, "stack", stack, spare, K, stack)

    def test_arguments_by_name(self):
        self.assertEqual(spare(stack=(G, H), kinds=K), [(0, 1)])


class TestAdded(Case):

    def test_the_example_of_the_document(self):
        self.assertEqual(added(K, (H, G)), [])

    def test_nothing_is_added(self):
        for stack in ((), ((),), (G,), (G, G), (take(("io",), ("raise", ("m", ("*",)))),), (take(("io",), ("pass", G)),)):
            self.assertEqual(added(K, stack), [])

    def test_all_kinds_of_a_form(self):
        self.assertEqual(added(K, (H,)), ["net"])
        self.assertEqual(added(K, (take(("both",), ("raise", ("n", ("net", ("m", ("io", "*", "both")), "net")))),)), ["both", "io", "net"])
        self.assertEqual(added(K, (((("both",), ("raise", "io")), (("disk",), ("raise", "both"))),)), ["both", "io"])

    def test_a_kind_of_the_tree_is_added_only_as_a_new_leaf(self):
        self.assertEqual(added(K, (take(("net",), ("raise", ("m", ("*",)))), take(("net",), "back"))), [])
        self.assertEqual(added(K, (take(("net",), ("raise", "net")),)), ["net"])

    def test_what_is_dropped_later_is_not_added(self):
        self.assertEqual(added(K, (H, take(("net",), ("keep", ("both",))))), [])
        self.assertEqual(added(K, (H, take(("net",), ("raise", "disk")))), ["disk"])
        self.assertEqual(added(K, (H, take(("both",), "drop"))), ["net"])
        self.assertEqual(added(K, (H, take(("io",), ("pass", take(("net",), "drop"))))), [])

    def test_clauses_that_do_not_fire_add_nothing(self):
        self.assertEqual(added(K, (((("io",), "back"), (("net",), ("raise", "disk"))),)), [])
        self.assertEqual(added(K, (take(("net",), "drop"), take(("both",), ("raise", "disk")))), [])

    def test_kinds_that_can_only_be_added_by_an_inner_guard(self):
        self.assertEqual(added(K, (P,)), ["disk"])
        self.assertEqual(added(K, (take(("disk",), ("pass", take(("net",), ("raise", ("m", ("*", "io")))))),)), ["io"])
        self.assertEqual(added(K, (take(("io",), ("pass", take(("io",), ("pass", take(("disk",), ("raise", "both")))))),)), ["both"])
        self.assertEqual(added(K, (take(("io",), ("raise", "io")), P)), ["io"])
        self.assertEqual(added(K, (take(("io",), ("raise", "both")), P)), ["disk"])

    def test_many_stacks(self):
        for stack in STACKS:
            self.assertEqual(added(K, stack), ASKER.added(stack), stack)

    def test_made_stacks_of_all_families(self):
        for n, bases in enumerate(FAMILIES):
            maker, asker = Maker(770 + n, bases), Asker(bases)
            for stack in maker.stacks(80 if len(bases) < 7 else 8):
                self.assertEqual(added(maker.kinds, stack), asker.added(stack), stack)

    def test_stacks_that_are_none(self):
        for stack in NO_STACKS:
            self.told(NoStack, "stack", stack, added, K, stack)

    def test_arguments_by_name(self):
        self.assertEqual(added(stack=(H,), kinds=K), ["net"])


class TestConventions(Case):

    def test_what_is_returned_is_new(self):
        for ask in (drops, idle, spare, added):
            found = ask(K, (G, H, G))
            expected = ask(K, (G, H, G))
            found.clear()
            self.assertEqual(ask(K, (G, H, G)), expected)
            self.assertIs(type(found), dict if ask is drops else list)

    def test_tables_are_unchanged(self):
        one, other = Table(K, G), Table(K, H)
        before = [list(one.rows()), list(other.rows())]
        telling(one, other)
        self.assertEqual([list(one.rows()), list(other.rows())], before)

    def test_five_kinds_and_three_guards(self):
        maker, asker = Maker(780, FIVE), Asker(FIVE)
        for _ in range(12):
            stack = tuple([maker.guard(2) for _ in range(3)])
            self.assertEqual(idle(maker.kinds, stack), asker.idle(stack))
            self.assertEqual(spare(maker.kinds, stack), asker.spare(stack))
            self.assertEqual(added(maker.kinds, stack), asker.added(stack))
            self.assertEqual({kind: {address} for kind, address in drops(maker.kinds, stack).items()}, asker.drops(stack))

    def test_the_largest_stacks(self):
        guard = tuple([((name,), ("raise", ("m", (*["io"] * 10, "*")))) for name in ("both", "net", "disk") * 4])
        stack = (guard,) * 6
        self.assertEqual(len(idle(K, stack)), 54)
        self.assertEqual((added(K, stack), drops(K, stack)), (["io"], dict.fromkeys(K.order)))
        self.assertIsNone(tell(stack, tuple([guard[:3]] * 6)))

    def test_guards_100_deep(self):
        deep = nested(take(("io",), "drop"), 100, lambda guard: take(("io",), ("pass", guard)))
        self.assertEqual(drops(K, (deep,)), dict.fromkeys(K.order, (0,) * 102))
        self.assertEqual((idle(K, (deep,)), added(K, (deep,))), ([], []))
        self.assertEqual(spare(K, (deep, deep)), [(g,) + (0,) * many for g in (0, 1) for many in range(1, 102)])

    def test_rows_of_600_groups(self):
        kinds = Kinds(io=())

        def stack(message):
            deep = "io pass ( " * 50 + "io raise " + "(" * 49 + message + "(*)" + ")" * 49 + " )" * 50
            return read_stack(kinds, " | ".join(["io back", *[deep] * 6]))

        one, other = Table(kinds, *stack("")), Table(kinds, *stack("m"))
        self.assertEqual(show_template(one.row(["io"])).count("("), 6 * 101)
        self.assertTrue(one == Table(kinds, *stack("")))
        self.assertFalse(one == other)
        self.assertIsNone(telling(one, Table(kinds).then(one)))
        self.assertEqual(telling(one, other)[0], "io")


if __name__ == "__main__":
    unittest.main()
