import itertools
import unittest

from errorplaces.errors import NoKind, NoTree
from errorplaces.kinds import Kinds
from errorplaces.trees import is_tree, leaves, part, split
from samples import K, T, UNLIKE, as_lists, nested

DEEP = nested(("net", 1), 100, lambda tree: ("", (tree, ("io", 2))))
CHAIN = nested(("net", 1), 100, lambda tree: ("chain", (tree,)))
TWINS = ("", (("net", 1), ("net", 1), ("x", (("net", 1), ("io", 1))), ("net", 1)))
TREES = [
    T, TWINS, DEEP, CHAIN, ("io", 0), ("both", 10 ** 59), ("net", (("net", 1),)), ("", (("", (("disk", 0),)),)),
    ("a", (("b", (("both", 1),)), ("c", (("net", 2), ("disk", 3))), ("io", 4), ("", (("both", 5),)))),
    ("wide", tuple((("io", "net", "disk", "both")[k % 4], k) for k in range(60))),
    ("abcdefgh", (("z", (("io", 1),)),)),
]
NO_TREES = [
    ("io", -1), ("io", -(10 ** 59)), ("io", True), ("io", False), ("io", None), ("io", "1"), ("io", ""), ("io",),
    ("io", 1, 1), ("io", 1, ()), ["io", 1], "io", 1, (1, "io"), (("io",), 1), (["io"], 1), (None, 1), (True, 1),
    ("cpu", 1), ("", 1), ("*", 1), ("IO", 1), ("io ", 1),
    ("m", ()), ("", ()), ("m", []), ("m", [("io", 1)]), ["m", (("io", 1),)], ("m", ("io", 1)), ("m", (("io", 1), 5)),
    ("m", (("io", 1),), 1), ("m", (("io", 1), ["net", 1])), ("m", (("io", 1), ("cpu", 1))), ("m", ((),)),
    ("m", (("io", 1), ("n", ()))), ("m", (("n", (("io", -1),)),)), ("m", (("n", (("io", True),)), ("io", 1))),
    ("abcdefghi", (("io", 1),)), ("M", (("io", 1),)), (" ", (("io", 1),)), ("m1", (("io", 1),)), ("*", (("io", 1),)),
    (None, (("io", 1),)), (0, (("io", 1),)), ((), (("io", 1),)), ("m", (("N", (("io", 1),)),)),
    ("m", "net"), ("m", None), ("*", ("io",)), ("m", (("*", ("io",)),)), ("m", ("io",)), (("io", 1), ("net", 1)),
    (("io", 1),), nested((), 60, lambda inner: ("", (inner,))), nested(("io", -1), 60, lambda inner: ("", (inner,))),
]
SUBSETS = [names for many in range(5) for names in itertools.combinations(K.order, many)]


def found_leaves(tree, place=()):
    if isinstance(tree[1], int):
        return [(place, tree)]
    return [row for k, child in enumerate(tree[1]) for row in found_leaves(child, place + (k,))]


def found_part(tree, names):
    if isinstance(tree[1], int):
        return tree if tree[0] in names else None
    children = tuple(inner for inner in (found_part(child, names) for child in tree[1]) if inner is not None)
    return (tree[0], children) if children else None


class TestIsTree(unittest.TestCase):

    def test_trees(self):
        for tree in TREES:
            self.assertIs(is_tree(K, tree), True)

    def test_anything_else(self):
        for thing in [*NO_TREES, *UNLIKE]:
            expected = thing == ("net", (("net", 1),))
            self.assertIs(is_tree(K, thing), expected)

    def test_a_list_is_no_tuple_at_any_level(self):
        self.assertIs(is_tree(K, as_lists(T)), False)
        self.assertIs(is_tree(K, ("all", as_lists(T[1]))), False)
        self.assertIs(is_tree(K, ("all", (T[1][0], as_lists(T[1][1])))), False)
        self.assertIs(is_tree(K, ("all", (as_lists(T[1][0]), T[1][1]))), False)

    def test_names_of_one_and_eight_letters_and_of_nine(self):
        kinds = Kinds(a=(), abcdefgh=())
        for name in ("a", "abcdefgh"):
            self.assertIs(is_tree(kinds, (name, 1)), True)
            self.assertIs(is_tree(kinds, (name, ((name, 1),))), True)
        self.assertIs(is_tree(kinds, ("z", (("a", 1),))), True)
        self.assertIs(is_tree(kinds, ("abcdefghi", (("a", 1),))), False)
        self.assertIs(is_tree(kinds, ("abcdefghi", 1)), False)

    def test_the_kinds_are_those_of_the_table(self):
        self.assertIs(is_tree(Kinds(), ("io", 1)), False)
        self.assertIs(is_tree(Kinds(net=()), ("net", 1)), True)
        self.assertIs(is_tree(Kinds(net=()), T), False)
        self.assertIs(is_tree(Kinds(net=()), ("io", (("net", 1),))), True)

    def test_values_that_are_greater(self):
        for depth in (61, 100, 250):
            self.assertIs(is_tree(K, nested(("io", 1), depth, lambda tree: ("m", (tree,)))), True)
            self.assertIs(is_tree(K, nested(("io", True), depth, lambda tree: ("m", (tree,)))), False)
        self.assertIs(is_tree(K, ("m", (("io", 1),) * 20000)), True)
        self.assertIs(is_tree(K, ("m", (("io", 1),) * 20000 + (("io", "1"),))), False)
        self.assertIs(is_tree(K, ("io", 10 ** 80)), True)
        self.assertIs(is_tree(K, ("x" * 9000, (("io", 1),))), False)

    def test_arguments_by_name(self):
        self.assertIs(is_tree(kinds=K, thing=T), True)
        self.assertIs(is_tree(thing=5, kinds=K), False)


class TestLeaves(unittest.TestCase):

    def test_the_example_of_the_document(self):
        self.assertEqual(list(leaves(T)), [((0,), ("net", 1)), ((1, 0), ("disk", 2)), ((1, 1), ("io", 3))])

    def test_a_bare_leaf(self):
        self.assertEqual(list(leaves(("io", 0))), [((), ("io", 0))])

    def test_equal_leaves(self):
        self.assertEqual(list(leaves(TWINS)), [
            ((0,), ("net", 1)), ((1,), ("net", 1)), ((2, 0), ("net", 1)), ((2, 1), ("io", 1)), ((3,), ("net", 1))])

    def test_all_trees(self):
        for tree in TREES:
            self.assertEqual(list(leaves(tree)), found_leaves(tree))

    def test_outcomes_of_250_groups(self):
        tree = nested(("io", 1), 250, lambda inner: ("", (("net", 0), inner)))
        found = list(leaves(tree))
        self.assertEqual(len(found), 251)
        self.assertEqual(found[-1], ((1,) * 250, ("io", 1)))

    def test_the_values_are_yielded_one_by_one(self):
        steps = leaves(T)
        self.assertIs(iter(steps), steps)
        self.assertEqual(next(steps), ((0,), ("net", 1)))
        self.assertEqual(list(steps), [((1, 0), ("disk", 2)), ((1, 1), ("io", 3))])
        self.assertEqual(list(steps), [])

    def test_two_generators_one_within_the_other(self):
        for inner in (T, TWINS):
            rows = []
            for one in leaves(T):
                rows.append((one, [other for other in leaves(inner)]))
            self.assertEqual([one for one, _ in rows], found_leaves(T))
            for _, others in rows:
                self.assertEqual(others, found_leaves(inner))

    def test_two_generators_in_turn(self):
        one = leaves(T)
        first = next(one)
        other = leaves(T)
        self.assertEqual([next(other), next(one), next(other), next(other), next(one)],
                         [first, *found_leaves(T)[1:2], *found_leaves(T)[1:], found_leaves(T)[2]])

    def test_arguments_by_name(self):
        self.assertEqual(list(leaves(tree=T)), found_leaves(T))


class TestPart(unittest.TestCase):

    def test_the_example_of_the_document(self):
        self.assertEqual(part(K, T, ["io"]), ("all", (("sub", (("io", 3),)),)))

    def test_it_is_for_these_kinds_only_not_for_those_under_them(self):
        self.assertIsNone(part(K, ("net", 1), ["io"]))
        self.assertEqual(part(K, T, ["net", "both"]), ("all", (("net", 1),)))
        self.assertIsNone(part(K, T, ["both"]))

    def test_bare_leaves(self):
        self.assertEqual(part(K, ("io", 3), ["io"]), ("io", 3))
        self.assertIsNone(part(K, ("io", 3), ["net"]))

    def test_without_names_there_is_no_part(self):
        for tree in TREES:
            self.assertIsNone(part(K, tree, []))
            self.assertIsNone(part(K, tree, ()))

    def test_groups_without_leaves_are_left_out(self):
        tree = ("a", (("b", (("c", (("net", 1),)),)), ("d", (("io", 2),)), ("e", (("net", 3), ("io", 4)))))
        self.assertEqual(part(K, tree, ["io"]), ("a", (("d", (("io", 2),)), ("e", (("io", 4),)))))
        self.assertEqual(part(K, tree, ["net"]), ("a", (("b", (("c", (("net", 1),)),)), ("e", (("net", 3),)))))
        self.assertIsNone(part(K, tree, ["disk"]))

    def test_equal_leaves_all_stay(self):
        self.assertEqual(part(K, TWINS, ["net"]),
                         ("", (("net", 1), ("net", 1), ("x", (("net", 1),)), ("net", 1))))

    def test_all_trees_and_all_sets_of_kinds(self):
        for tree, names in itertools.product(TREES, SUBSETS):
            expected = found_part(tree, names)
            for given in (names, list(names), list(reversed(names)), [*names, *names]):
                self.assertEqual(part(K, tree, given), expected)

    def test_trees_of_250_groups(self):
        tree = nested(("io", 1), 250, lambda inner: ("", (("net", 0), inner)))
        self.assertEqual(part(K, tree, ["io"]), nested(("io", 1), 250, lambda inner: ("", (inner,))))

    def test_the_kinds_are_those_of_the_table(self):
        kinds = Kinds(net=())
        with self.assertRaises(NoTree):
            part(kinds, T, ["net"])
        with self.assertRaises(NoKind):
            part(kinds, ("net", 1), ["io"])

    def test_arguments_by_name(self):
        self.assertEqual(part(kinds=K, tree=T, names=["net"]), ("all", (("net", 1),)))


class TestSplit(unittest.TestCase):

    def test_the_examples_of_the_document(self):
        self.assertIs(split(K, T, ["io"]) == (T, None), True)
        self.assertEqual(split(K, ("io", 3), ["net"]), (None, ("io", 3)))

    def test_it_is_for_all_kinds_under_the_names(self):
        both = ("m", (("both", 1), ("io", 2)))
        expected = (("m", (("both", 1),)), ("m", (("io", 2),)))
        for names in (["both"], ["net"], ["disk"], ["net", "disk"], ("both", "net")):
            self.assertEqual(split(K, both, names), expected)
        self.assertEqual(split(K, both, ["io"]), (both, None))
        self.assertEqual(split(K, ("net", 1), ["both"]), (None, ("net", 1)))

    def test_the_kinds_between_may_be_absent(self):
        kinds = Kinds(a=(), b=("a",), c=("b",), d=())
        self.assertEqual(split(kinds, ("", (("c", 1), ("d", 2))), ["a"]), (("", (("c", 1),)), ("", (("d", 2),))))

    def test_without_names_all_leaves_are_others(self):
        for tree in TREES:
            self.assertEqual(split(K, tree, []), (None, tree))
            self.assertEqual(split(K, tree, ()), (None, tree))

    def test_all_trees_and_all_sets_of_kinds(self):
        under = {"io": ("io", "net", "disk", "both"), "net": ("net", "both"), "disk": ("disk", "both"),
                 "both": ("both",)}
        for tree, names in itertools.product(TREES, SUBSETS):
            taken = {kind for name in names for kind in under[name]}
            expected = (found_part(tree, taken), found_part(tree, set(K.order) - taken))
            for given in (names, list(names), [*names, *names]):
                self.assertEqual(split(K, tree, given), expected)

    def test_it_returns_a_tuple(self):
        self.assertIs(type(split(K, T, ["net"])), tuple)

    def test_trees_of_250_groups(self):
        tree = nested(("io", 1), 250, lambda inner: ("", (("net", 0), inner)))
        taken, others = split(K, tree, ["net"])
        self.assertEqual(others, nested(("io", 1), 250, lambda inner: ("", (inner,))))
        self.assertEqual(len(list(leaves(taken))), 250)

    def test_arguments_by_name(self):
        self.assertEqual(split(kinds=K, tree=T, names=["io"]), (T, None))


class TestErrors(unittest.TestCase):

    def test_values_that_are_no_trees(self):
        for call, thing in itertools.product((part, split), [*NO_TREES, *UNLIKE]):
            with self.assertRaises(NoTree) as caught:
                call(K, thing, ["io"])
            self.assertEqual(caught.exception.tree, thing)
            self.assertIs(type(caught.exception.tree), type(thing))

    def test_the_first_name_that_is_no_kind_is_told(self):
        for call in (part, split):
            for thing in UNLIKE:
                for names in ([thing], (thing,), ["io", thing, "web"], ["net", "net", thing, None, 5]):
                    with self.assertRaises(NoKind) as caught:
                        call(K, T, names)
                    self.assertEqual(caught.exception.name, thing)
                    self.assertIs(type(caught.exception.name), type(thing))

    def test_a_name_is_checked_also_if_the_tree_has_no_such_leaf(self):
        for call, tree in itertools.product((part, split), TREES):
            with self.assertRaises(NoKind) as caught:
                call(K, tree, ["both", "cpu"])
            self.assertEqual(caught.exception.name, "cpu")

    def test_a_wrong_tree_comes_before_a_wrong_name(self):
        for call, thing, name in itertools.product((part, split), NO_TREES, ("cpu", None, [], 1)):
            with self.assertRaises(NoTree) as caught:
                call(K, thing, [name])
            self.assertEqual(caught.exception.tree, thing)

    def test_a_deep_value_that_is_no_tree(self):
        thing = nested(["io", 1], 250, lambda inner: ("", (inner,)))
        for call in (part, split):
            with self.assertRaises(NoTree) as caught:
                call(K, thing, [])
            self.assertEqual(caught.exception.tree, thing)


class TestConventions(unittest.TestCase):

    def test_arguments_are_unchanged(self):
        names = ["net", "io", "net"]
        wrong = ["m", [["io", 1]]]
        kinds = Kinds(io=(), net=("io",), disk=("io",))
        for call in (part, split):
            call(kinds, T, names)
            with self.assertRaises(NoTree):
                call(kinds, wrong, names)
        is_tree(kinds, wrong)
        list(leaves(T))
        self.assertEqual(names, ["net", "io", "net"])
        self.assertEqual(wrong, ["m", [["io", 1]]])
        self.assertEqual(kinds, Kinds(io=(), net=("io",), disk=("io",)))
        self.assertEqual(T, ("all", (("net", 1), ("sub", (("disk", 2), ("io", 3))))))

    def test_returned_values_may_be_passed_again_within_new_groups(self):
        tree = part(K, DEEP, ["net"])
        for _ in range(50):
            tree = ("up", (tree, ("io", 1)))
            self.assertIs(is_tree(K, tree), True)
            self.assertEqual(split(K, tree, ["net"])[0], part(K, tree, ["net", "both"]))

    def test_results_do_not_depend_on_earlier_calls(self):
        first = [part(K, T, ["io"]), split(K, T, ["net"]), list(leaves(T))]
        for tree in TREES:
            part(K, tree, ["disk"])
            split(K, tree, ["both"])
            next(leaves(tree))
        self.assertEqual([part(K, T, ["io"]), split(K, T, ["net"]), list(leaves(T))], first)


if __name__ == "__main__":
    unittest.main()
