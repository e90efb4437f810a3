import itertools
import unittest

from errorplaces.errors import NoTemplate, NoTree
from errorplaces.kinds import Kinds
from errorplaces.templates import fill, is_template
from errorplaces.trees import part
from cases import Case
from made import Maker
from reckoning import filled
from samples import K, T, UNLIKE, as_lists, nested

ALL = ("both", "disk", "io", "net")
TEMPLATES = [
    ("*", ("io",)), ("*", ("both", "net")), ("*", ALL), ("net", 0), ("both", 0), ("m", (("net", 0),)),
    ("", (("*", ("net",)),)), ("", (("*", ("net",)), ("*", ("io",)), ("*", ("both", "disk")))),
    ("m", (("*", ("both", "net")), ("n", (("*", ("io",)), ("net", 0))))), ("net", (("net", 0), ("net", 0), ("*", ("net",)))),
    ("a", (("b", (("c", (("*", ("io",)),)),)), ("d", (("*", ("disk",)),)))), ("abcdefgh", (("*", ALL), ("io", 0))),
    ("m", (("n", (("n", (("*", ("both",)),)), ("*", ("net",)))), ("n", (("*", ("io",)),)))),
]
NO_TEMPLATES = [
    # holes that are none
    ("*", ()), ("*", []), ("*", ["io"]), ["*", ("io",)], ("*", "io"), ("*", ("cpu",)), ("*", ("io", "cpu")), ("*", ("net", "io")),
    ("*", ("io", "io")), ("*", ("disk", "io", "io")), ("*", ("io", "disk")), ("*", ("io",), 0), ("*",), "*", ("*", 0), ("*", None),
    ("*", ("io", None)), ("*", (0,)), ("*", (("io",),)), ("**", ("io",)), ("", ("io",)), ("m", ("io",)), ("*", ("io", 1)),
    ("*", (("net", 0),)), ("*", (["io"],)), ("*", ("",)), ("*", ("*",)),
    # leaves that are not new ones
    ("net", 1), ("io", -1), ("net", False), ("net", True), ("net", None), ("net", "0"), ("cpu", 0), ["net", 0], ("net", 0, 0),
    ("net",), "net", 0, ("", 0), (0, "net"), ("NET", 0), ("net", ()), ("m", (("net", 1),)), ("m", (("net", False),)),
    # groups that are none
    ("m", ()), ("", ()), ("m", []), ("m", [("net", 0)]), ["m", (("net", 0),)], ("m", (("net", 0),), 0), ("m", ("net", 0)),
    ("M", (("net", 0),)), ("abcdefghi", (("net", 0),)), (None, (("net", 0),)), ("m", (("n", ()),)), ("m", (("net", 0), None)),
    ("m", (("net", 0), ["net", 0])), ("m", ("*",)), ("m", (("*", ("io",)), ("n", (("*", ()),)))), (("net", 0), ("io", 0)),
    (("*", ("io",)),), ("m ", (("*", ("io",)),)),
    # kinds that are in two holes
    ("m", (("*", ("io",)), ("*", ("io",)))), ("m", (("*", ("io", "net")), ("*", ("both", "net")))),
    ("m", (("*", ("io",)), ("n", (("*", ("disk", "io")),)))), ("m", (("n", (("*", ("net",)),)), ("net", 0), ("*", ALL))), T, None,
]
TREES = [
    T, ("io", 3), ("net", 0), ("disk", 5), ("both", 10 ** 59), ("", (("net", 1), ("net", 1), ("x", (("io", 1), ("net", 1))))),
    ("g", (("h", (("both", 1),)), ("h", (("both", 1), ("disk", 2))), ("io", 4), ("", (("net", 5),)))),
    ("wide", tuple([(K.order[k % 4], k) for k in range(60)])), nested(("net", 1), 100, lambda tree: ("", (tree, ("io", 2)))),
]


class TestIsTemplate(unittest.TestCase):

    def test_templates(self):
        for template in TEMPLATES:
            with self.subTest(template):
                self.assertIs(is_template(K, template), True)

    def test_anything_else(self):
        for thing in [*NO_TEMPLATES, *UNLIKE]:
            with self.subTest(thing):
                self.assertIs(is_template(K, thing), False)

    def test_a_list_is_no_tuple_at_any_level(self):
        for template in TEMPLATES:
            self.assertIs(is_template(K, as_lists(template)), False)
            self.assertIs(is_template(K, ("m", (as_lists(template),))), False)
            self.assertIs(is_template(K, ("m", (("net", 0), ("n", (as_lists(template),))))), False)

    def test_every_child_is_looked_at(self):
        for thing in NO_TEMPLATES:
            self.assertIs(is_template(K, ("m", (thing, ("net", 0)))), False)
            self.assertIs(is_template(K, ("m", (("net", 0), ("n", (("net", 0), thing))))), False)

    def test_new_leaves_may_be_repeated_and_be_in_holes_too(self):
        self.assertIs(is_template(K, ("m", (("io", 0), ("io", 0), ("*", ("io",)), ("io", 0)))), True)

    def test_each_set_of_names_in_ascending_order_is_a_hole(self):
        for many in range(1, 5):
            for names in itertools.permutations(ALL, many):
                self.assertIs(is_template(K, ("*", names)), list(names) == sorted(names))

    def test_the_kinds_are_those_of_the_table(self):
        for thing in TEMPLATES:
            self.assertIs(is_template(Kinds(), thing), False)
        kinds = Kinds(net=())
        self.assertIs(is_template(kinds, ("io", (("*", ("net",)), ("net", 0)))), True)
        self.assertIs(is_template(kinds, ("*", ("io",))), False)
        self.assertIs(is_template(kinds, ("m", (("net", 0), ("io", 0)))), False)

    def test_values_that_are_greater(self):
        self.assertIs(is_template(K, ("m", (("io", 0),) * 20000)), True)
        self.assertIs(is_template(K, ("m", (("io", 0),) * 20000 + (("io", 1),))), False)
        self.assertIs(is_template(K, ("*", ("io",) * 5000)), False)
        for depth in (61, 100, 250):
            self.assertIs(is_template(K, nested(("*", ("io",)), depth, lambda inner: ("", (inner, ("net", 0))))), True)
            self.assertIs(is_template(K, nested(("*", ()), depth, lambda inner: ("", (inner, ("net", 0))))), False)

    def test_arguments_by_name(self):
        self.assertIs(is_template(kinds=K, thing=("net", 0)), True)
        self.assertIs(is_template(thing=("net", 1), kinds=K), False)


class TestFill(unittest.TestCase):

    def test_the_example_of_the_document(self):
        self.assertEqual(fill(K, ("m", (("*", ("both", "net")), ("n", (("*", ("io",)), ("net", 0))))), ("io", 5)),
                         ("m", (("n", (("io", 5), ("net", 0))),)))

    def test_a_hole_alone_is_the_part_for_its_kinds(self):
        for many in range(1, 5):
            for names, tree in itertools.product(itertools.combinations(ALL, many), TREES):
                self.assertEqual(fill(K, ("*", names), tree), part(K, tree, names))

    def test_a_new_leaf_alone_stays(self):
        for tree in TREES:
            self.assertEqual(fill(K, ("net", 0), tree), ("net", 0))

    def test_a_hole_is_for_these_kinds_only_not_for_those_under_them(self):
        self.assertIsNone(fill(K, ("*", ("io",)), ("net", 1)))
        self.assertEqual(fill(K, ("m", (("*", ("io",)), ("io", 0))), ("both", 1)), ("m", (("io", 0),)))

    def test_groups_without_children_are_left_out(self):
        template = ("a", (("b", (("c", (("*", ("net",)),)),)), ("d", (("*", ("disk",)),))))
        self.assertEqual(fill(K, template, ("net", 1)), ("a", (("b", (("c", (("net", 1),)),)),)))
        self.assertEqual(fill(K, template, ("disk", 1)), ("a", (("d", (("disk", 1),)),)))
        self.assertIsNone(fill(K, template, ("io", 1)))

    def test_several_holes(self):
        template = ("", (("*", ("net",)), ("n", (("io", 0), ("*", ("disk", "io")))), ("*", ("both",))))
        self.assertEqual(fill(K, template, T),
                         ("", (("all", (("net", 1),)), ("n", (("io", 0), ("all", (("sub", (("disk", 2), ("io", 3))),)))))))

    def test_all_templates_and_trees(self):
        for template, tree in itertools.product(TEMPLATES, TREES):
            self.assertEqual(fill(K, template, tree), filled(template, tree))

    def test_made_trees(self):
        for template, tree in itertools.product(TEMPLATES, Maker(1).trees(200)):
            self.assertEqual(fill(K, template, tree), filled(template, tree))

    def test_deep_templates_and_trees(self):
        template = nested(("*", ("io",)), 100, lambda inner: ("", (inner, ("net", 0))))
        tree = nested(("net", 1), 100, lambda inner: ("m", (inner, ("io", 2))))
        self.assertEqual(fill(K, template, tree), filled(template, tree))
        self.assertEqual(fill(K, nested(("*", ("disk",)), 100, lambda inner: ("", (inner,))), tree), None)

    def test_arguments_by_name(self):
        self.assertEqual(fill(tree=T, template=("*", ("net",)), kinds=K), ("all", (("net", 1),)))


class TestErrors(Case):

    def test_templates_that_are_none(self):
        for thing, tree in itertools.product([*NO_TEMPLATES, *UNLIKE], [T, 5]):
            self.told(NoTemplate, "template", thing, fill, K, thing, tree)

    def test_trees_that_are_none(self):
        for thing, template in itertools.product([*UNLIKE, ("*", ("io",)), ("m", ()), ["io", 1], ("io", -1)], TEMPLATES):
            if thing != ("net", (("net", 1),)):
                self.told(NoTree, "tree", thing, fill, K, template, thing)

    def test_the_kinds_are_those_of_the_table(self):
        kinds = Kinds(net=())
        self.told(NoTemplate, "template", ("io", 0), fill, kinds, ("io", 0), ("net", 1))
        self.told(NoTree, "tree", ("io", 0), fill, kinds, ("net", 0), ("io", 0))

    def test_arguments_are_unchanged(self):
        template, tree = ["*", ["io"]], ["io", [1]]
        self.told(NoTemplate, "template", ["*", ["io"]], fill, K, template, tree)
        self.told(NoTree, "tree", ["io", [1]], fill, K, ("*", ("io",)), tree)
        self.assertIs(is_template(K, template), False)
        self.assertEqual((template, tree), (["*", ["io"]], ["io", [1]]))


if __name__ == "__main__":
    unittest.main()
