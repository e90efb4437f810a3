import itertools
import unittest

from errorplaces.errors import NoNumber, NoPlace, NoStack, NoTree
from errorplaces.kinds import Kinds
from errorplaces.running import handled, passage, way
from errorplaces.trees import leaves
from cases import Case
from made import ACTIONS, BASES, EDGES, FAMILIES, ONE_CLAUSE, Maker
from reckoning import Reckoner
from samples import G, H, K, NO_STACKS, P, T, UNLIKE, as_lists, nested

RECKONER = Reckoner(BASES)
TWINS = ("", (("net", 1), ("net", 1), ("x", (("net", 1), ("io", 1))), ("both", 1), ("disk", 1)))
WIDE = ("wide", tuple([(K.order[k % 4], k % 5) for k in range(60)]))
DEEP = nested(("net", 1), 100, lambda tree: ("", (tree, ("io", 2))))
TREES = [
    T, TWINS, WIDE, ("io", 3), ("net", 0), ("disk", 7), ("both", 10 ** 59), ("m", (("both", 5),)),
    ("", (("", (("disk", 0),)), ("net", 0))), ("a", (("b", (("c", (("net", 1),)),)), ("d", (("io", 2), ("both", 2))))),
]
NO_TREES = [thing for thing in [*UNLIKE, as_lists(T), ("m", ()), ("cpu", 1), ("io", -1), ("io", True), (("io", 1),)]
            if thing != ("net", (("net", 1),))]
NO_NUMBERS = [thing for thing in UNLIKE if not isinstance(thing, int) or isinstance(thing, bool) or thing < 0]
LARGE = [10 ** 59, 10 ** 60 - 1]


def take(names, action):
    return ((names, action),)


def raise_(form):
    return take(("io",), ("raise", form))


class TestHandled(Case):

    def test_the_examples_of_the_document(self):
        self.assertEqual(handled(K, (G,), T), ("all", (("sub", (("disk", 2), ("io", 3))),)))
        self.assertEqual(handled(K, (G, H), T, first=7),
                         ("", (("note", (("all", (("sub", (("disk", 2), ("io", 3))),)), ("net", 7))),)))
        self.assertEqual(handled(K, (P,), T),
                         ("", (("", (("disk", 0), ("all", (("sub", (("disk", 2), ("io", 3))),)))),)))
        self.assertEqual([handled(K, (G,), leaf) for leaf in [("io", 3), ("disk", 2), ("net", 1)]],
                         [("io", 3), ("", (("disk", 2),)), None])

    def test_stacks_and_guards_without_anything(self):
        for stack, tree in itertools.product([(), ((),), ((), (), ())], TREES):
            self.assertEqual(handled(K, stack, tree), tree)
            self.assertEqual(handled(K, stack, tree, first=9), tree)

    def test_a_bare_leaf_that_no_clause_takes_stays_bare(self):
        self.assertEqual(handled(K, (take(("net",), "drop"), (), take(("disk", "both"), ("raise", "*"))), ("io", 4)), ("io", 4))

    def test_a_bare_leaf_that_the_first_guard_takes(self):
        leaf = ("net", 4)
        group = ("", (leaf,))
        for action, expected in [
                ("back", group), ("drop", None), (("keep", ("io",)), group), (("keep", ("disk",)), None),
                (("raise", "*"), ("", (group,))), (("raise", "io"), ("", (("io", 0),))),
                (("raise", ("n", ("*",))), ("", (("n", (group,)),))),
                (("raise", ("n", ("io", "*", "io"))), ("", (("n", (("io", 0), group, ("io", 0))),))),
                (("pass", ()), group), (("pass", take(("disk",), "drop")), group), (("pass", take(("net",), "drop")), None),
                (("pass", take(("net",), ("raise", "*"))), ("", (("", (group,)),)))]:
            with self.subTest(action):
                self.assertEqual(handled(K, (take(("io",), action),), leaf), expected)

    def test_a_bare_leaf_that_a_later_guard_takes(self):
        first = take(("disk",), "drop")
        self.assertEqual(handled(K, (first, take(("net",), "back")), ("net", 4)), ("", (("net", 4),)))
        self.assertEqual(handled(K, (first, (), raise_("*")), ("net", 4)), ("", (("", (("net", 4),)),)))
        self.assertIsNone(handled(K, (first, take(("io",), "drop"), raise_("*")), ("net", 4)))

    def test_a_group_of_one_leaf_is_not_put_into_a_group(self):
        self.assertEqual(handled(K, (take(("net",), "back"),), ("", (("net", 4),))), ("", (("net", 4),)))
        self.assertEqual(handled(K, (take(("net",), "back"),) * 3, ("net", 4)), ("", (("net", 4),)))

    def test_a_clause_takes_what_is_under_its_names(self):
        tree = ("m", (("io", 1), ("net", 2), ("disk", 3), ("both", 4)))
        for name, left in [("io", ()), ("net", (("io", 1), ("disk", 3))), ("disk", (("io", 1), ("net", 2))),
                           ("both", (("io", 1), ("net", 2), ("disk", 3)))]:
            expected = ("m", left) if left else None
            self.assertEqual(handled(K, (take((name,), "drop"),), tree), expected)
            self.assertEqual(handled(K, (take((name, "both", name), "drop"),), tree), expected)
        self.assertEqual(handled(K, (take(("net", "disk"), "drop"),), tree), ("m", (("io", 1),)))

    def test_a_clause_does_not_take_what_an_earlier_one_took(self):
        tree = ("m", (("io", 1), ("net", 2), ("both", 3)))
        back, drop, up = (("io",), "back"), (("net",), "drop"), (("both",), ("raise", "*"))
        self.assertEqual(handled(K, ((back, drop, up),), tree), tree)
        self.assertEqual(handled(K, ((drop, back, up),), tree), ("m", (("io", 1),)))
        self.assertEqual(handled(K, ((up, drop, back),), tree), ("", (("m", (("both", 3),)), ("m", (("io", 1),)))))

    def test_a_clause_without_leaves_does_not_fire(self):
        self.assertEqual(handled(K, (take(("both",), ("raise", "disk")),), T), T)
        self.assertEqual(handled(K, (((("io",), "back"), (("io",), ("raise", "disk"))),), T), T)

    def test_keep(self):
        tree = ("m", (("io", 1), ("n", (("net", 2),)), ("disk", 3), ("both", 4)))
        kept = take(("net", "disk"), ("keep", ("net",)))
        self.assertEqual(handled(K, (kept,), tree), ("m", (("io", 1), ("n", (("net", 2),)), ("both", 4))))
        self.assertEqual(handled(K, (take(("io",), ("keep", ("both", "disk", "both"))),), tree), ("m", (("disk", 3), ("both", 4))))
        self.assertEqual(handled(K, (take(("net",), ("keep", ("disk",))),), tree), ("m", (("io", 1), ("disk", 3), ("both", 4))))
        self.assertIsNone(handled(K, (take(("io",), ("keep", ("both",))),), T))

    def test_forms(self):
        tree = ("m", (("io", 1), ("net", 2)))
        part = ("m", (("net", 2),))
        left = ("m", (("io", 1),))
        for form, built in [
                ("*", part), ("disk", ("disk", 0)), ("", None), (("", ("*",)), ("", (part,))),
                (("n", ("disk",)), ("n", (("disk", 0),))), (("n", ("disk", "*", "io")), ("n", (("disk", 0), part, ("io", 0)))),
                (("n", (("o", ("*", "io")), "net")), ("n", (("o", (part, ("io", 0))), ("net", 0)))),
                (("net", ("net", ("net", ("net", "*")))), ("net", (("net", 0), ("net", (("net", 0), part)))))]:
            if form:
                with self.subTest(form):
                    self.assertEqual(handled(K, (take(("net",), ("raise", form)),), tree), ("", (built, left)))
                    self.assertEqual(handled(K, (take(("net",), ("raise", form)),), part), ("", (built,)))

    def test_raised_trees_stand_in_the_order_of_their_clauses_before_what_is_left(self):
        tree = ("m", (("both", 1), ("io", 2), ("net", 3), ("disk", 4)))
        guard = ((("disk",), ("raise", ("d", ("*",)))), (("net",), ("raise", "both")))
        self.assertEqual(handled(K, (guard,), tree),
                         ("", (("d", (("m", (("both", 1), ("disk", 4))),)), ("both", 0), ("m", (("io", 2),)))))
        self.assertEqual(handled(K, (guard[::-1],), tree),
                         ("", (("both", 0), ("d", (("m", (("disk", 4),)),)), ("m", (("io", 2),)))))

    def test_what_is_given_back_stands_at_its_place_again(self):
        guard = ((("both",), "drop"), (("net",), "back"), (("disk",), ("keep", ("disk",))), (("io",), ("pass", ())))
        self.assertEqual(handled(K, (guard,), TWINS), ("", (("net", 1), ("net", 1), ("x", (("net", 1), ("io", 1))), ("disk", 1))))

    def test_an_inner_guard_that_raises_nothing(self):
        tree = ("m", (("both", 1), ("io", 2), ("net", 3), ("disk", 4)))
        inner = ((("both",), "drop"), (("net",), "back"))
        self.assertEqual(handled(K, (take(("net",), ("pass", inner)),), tree), ("m", (("io", 2), ("net", 3), ("disk", 4))))
        self.assertEqual(handled(K, (take(("net",), ("pass", ())),), tree), tree)
        self.assertEqual(handled(K, (take(("net",), ("pass", take(("disk",), ("keep", ("disk",))))),), tree), tree)
        self.assertIsNone(handled(K, (take(("io",), ("pass", take(("io",), "drop"))),), tree))

    def test_an_inner_guard_that_raises_something(self):
        tree = ("m", (("both", 1), ("io", 2), ("net", 3), ("disk", 4)))
        inner = ((("both",), ("raise", ("b", ("*",)))), (("io",), "back"))
        raised = ("", (("b", (("m", (("both", 1),)),)), ("m", (("net", 3),))))
        self.assertEqual(handled(K, (take(("net",), ("pass", inner)),), tree), ("", (raised, ("m", (("io", 2), ("disk", 4))))))
        self.assertEqual(handled(K, (take(("io",), ("pass", take(("both",), ("raise", "io")))),), ("both", 3)),
                         ("", (("", (("io", 0),)),)))

    def test_inner_guards_within_inner_guards(self):
        tree = ("m", (("both", 1), ("io", 2), ("net", 3), ("disk", 4)))
        inner = ((("net",), ("pass", take(("both",), ("raise", "disk")))), (("disk",), "drop"))
        self.assertEqual(handled(K, (take(("io",), ("pass", inner)),), tree),
                         ("", (("", (("", (("disk", 0), ("m", (("net", 3),)))), ("m", (("io", 2),)))),)))

    def test_every_further_guard_gets_the_outcome_of_the_one_before(self):
        stack = (raise_("net"), take(("net",), ("raise", ("x", ("*",)))), take(("io",), "back"))
        self.assertEqual(handled(K, stack, ("disk", 5)), ("", (("x", (("", (("net", 0),)),)),)))
        self.assertIsNone(handled(K, (raise_("net"), take(("net",), "drop"), raise_("io")), ("disk", 5)))

    def test_many_stacks_and_trees(self):
        for stack, tree in itertools.product([*ONE_CLAUSE, *EDGES], TREES):
            for first in (0, 1, 40):
                self.assertEqual(handled(K, stack, tree, first=first), RECKONER.outcome(stack, tree, first), (stack, tree))

    def test_made_stacks_and_trees_of_all_families(self):
        for n, bases in enumerate(FAMILIES):
            maker, reckoner = Maker(n, bases), Reckoner(bases)
            for stack, tree in zip(maker.stacks(600), maker.trees(600)):
                self.assertEqual(handled(maker.kinds, stack, tree, first=5), reckoner.outcome(stack, tree, 5), (stack, tree))

    def test_arguments_by_name(self):
        self.assertEqual(handled(tree=T, first=7, stack=(raise_("net"),), kinds=K), ("", (("net", 7),)))
        with self.assertRaises(TypeError):
            handled(K, (), T, 7)


class TestNumbers(Case):

    def test_new_leaves_have_the_number_0_if_first_is_0(self):
        stack = (raise_(("m", ("io", "*", "net"))),) * 2
        self.assertEqual(handled(K, stack, ("io", 5)), handled(K, stack, ("io", 5), first=0))
        self.assertEqual([leaf for _, leaf in leaves(handled(K, stack, ("io", 5)))],
                         [("io", 0), ("io", 0), ("io", 5), ("net", 0), ("net", 0)])

    def test_they_are_numbered_from_first_on(self):
        form = ("m", ("io", ("n", ("net", "*", "disk")), "both"))
        for first in (1, 2, 7, *LARGE):
            found = [leaf for _, leaf in leaves(handled(K, (raise_(form),), ("io", 5), first=first))]
            self.assertEqual(found, [("io", first), ("net", first + 1), ("io", 5), ("disk", first + 2), ("both", first + 3)])

    def test_they_are_raised_guard_by_guard_and_clause_by_clause(self):
        guard = ((("disk",), ("raise", ("d", ("disk", "*")))), (("net",), ("raise", ("n", ("*", "net")))))
        tree = ("m", (("net", 50), ("disk", 60)))
        self.assertEqual(handled(K, (guard,), tree, first=1),
                         ("", (("d", (("disk", 1), ("m", (("disk", 60),)))), ("n", (("m", (("net", 50),)), ("net", 2))))))
        twice = handled(K, (guard, guard), tree, first=1)
        self.assertEqual([leaf for _, leaf in leaves(twice)],
                         [("disk", 3), ("disk", 1), ("disk", 60), ("net", 50), ("net", 2), ("net", 4)])

    def test_those_of_an_inner_guard_are_raised_at_the_clause_that_passes_to_it(self):
        inner = ((("both",), ("raise", "io")), (("net",), ("raise", ("n", ("net", "*")))))
        guard = ((("both",), ("raise", "both")), (("net",), ("pass", inner)), (("disk",), ("raise", "disk")))
        tree = ("m", (("disk", 90), ("net", 91), ("both", 92)))
        self.assertEqual(handled(K, (guard,), tree, first=4),
                         ("", (("both", 4), ("", (("n", (("net", 5), ("m", (("net", 91),)))),)), ("disk", 6))))

    def test_also_those_that_are_dropped_later_have_numbers(self):
        stack = (raise_(("m", ("net", "*", "io"))), take(("net",), "drop"), raise_(("m", ("*", "disk"))))
        self.assertEqual([leaf for _, leaf in leaves(handled(K, stack, ("io", 9), first=1))], [("io", 9), ("io", 2), ("disk", 3)])
        self.assertEqual(handled(K, (raise_(("m", ("io", "net", "io"))), raise_("disk")), ("io", 9), first=1), ("", (("disk", 4),)))

    def test_clauses_that_do_not_fire_raise_nothing(self):
        guard = ((("both",), ("raise", "both")), (("net",), ("raise", "net")))
        self.assertEqual(handled(K, (guard,), ("net", 9), first=3), ("", (("net", 3),)))

    def test_the_numbers_of_the_tree_stay(self):
        for first in (0, 1, 3):
            self.assertEqual(handled(K, (take(("io",), "back"),), TWINS, first=first), TWINS)


class TestPassage(Case):

    def test_the_outcome_of_each_guard(self):
        middle = ("all", (("sub", (("disk", 2), ("io", 3))),))
        self.assertEqual(list(passage(K, (G, H), T)), [middle, ("", (("note", (middle, ("net", 0))),))])
        self.assertEqual(list(passage(K, ((), G, ()), ("io", 1))), [("io", 1)] * 3)

    def test_a_stack_without_guards(self):
        for tree in TREES:
            self.assertEqual(list(passage(K, (), tree)), [])

    def test_it_ends_with_none_when_nothing_is_left(self):
        self.assertEqual(list(passage(K, (G, H, H), ("net", 1))), [None])
        self.assertEqual(list(passage(K, ((), H, take(("io",), "drop"), G, G), ("net", 1))),
                         [("net", 1), ("", (("note", (("", (("net", 1),)), ("net", 0))),)), None])

    def test_many_stacks_and_trees(self):
        for stack, tree in itertools.product([*ONE_CLAUSE, *EDGES], TREES):
            outcomes, _ = RECKONER.run(stack, tree)
            self.assertEqual(list(passage(K, stack, tree)), outcomes)
            self.assertEqual(handled(K, stack, tree), outcomes[-1] if outcomes else tree)

    def test_made_stacks_and_trees(self):
        maker = Maker(20)
        for stack, tree in zip(maker.stacks(400), maker.trees(400)):
            self.assertEqual(list(passage(K, stack, tree)), RECKONER.run(stack, tree)[0])

    def test_the_values_are_yielded_one_by_one(self):
        steps = passage(K, (G, H), T)
        self.assertIs(iter(steps), steps)
        self.assertEqual([next(steps), *steps, *steps], list(passage(K, (G, H), T)))

    def test_two_generators_one_within_the_other(self):
        outer, inner = (G, H, P), (H, take(("io",), "drop"), G)
        expected = (RECKONER.run(outer, T)[0], RECKONER.run(inner, TWINS)[0])
        rows = [(one, list(passage(K, inner, TWINS))) for one in passage(K, outer, T)]
        self.assertEqual([one for one, _ in rows], expected[0])
        self.assertEqual([other for _, other in rows], [expected[1]] * 3)
        rows = []
        for one in passage(K, outer, T):
            for other in passage(K, outer, T):
                rows.append((one, other))
        self.assertEqual(rows, list(itertools.product(expected[0], expected[0])))

    def test_two_generators_in_turn(self):
        one, other = passage(K, (G, H), T), passage(K, (H, G), ("net", 1))
        found = [next(one), next(other), next(other), next(one)]
        first, second = RECKONER.run((G, H), T)[0], RECKONER.run((H, G), ("net", 1))[0]
        self.assertEqual(found, [first[0], *second, first[1]])

    def test_errors_are_raised_when_the_iteration_begins(self):
        for stack in NO_STACKS:
            self.told(NoStack, "stack", stack, lambda: next(passage(K, stack, T)))
            self.told(NoStack, "stack", stack, lambda: next(passage(K, stack, 5)))
        for stack, tree in itertools.product([(), ((),), (G, H)], NO_TREES):
            self.told(NoTree, "tree", tree, lambda: next(passage(K, stack, tree)))
            self.told(NoTree, "tree", tree, lambda: list(passage(K, stack, tree)))

    def test_arguments_by_name(self):
        self.assertEqual(list(passage(tree=T, stack=(G, H), kinds=K)), list(passage(K, (G, H), T)))


class TestWay(Case):

    def test_the_examples_of_the_document(self):
        self.assertEqual(way(K, (G, H), T, (1, 0)), [((0, 1), "back", (0, 0)), ((1, 0), "raised", (0, 0, 0, 0))])
        self.assertEqual(way(K, (G, H), T, (0,)), [((0, 0), "dropped", None)])

    def test_a_stack_without_guards(self):
        for tree in TREES:
            for place, _ in leaves(tree):
                self.assertEqual(way(K, (), tree, place), [])

    def test_a_leaf_that_no_clause_takes(self):
        self.assertEqual(way(K, (G, ()), T, (1, 1)), [((), "untouched", (0, 1)), ((), "untouched", (0, 1))])
        self.assertEqual(way(K, (take(("both",), "drop"), ()), ("io", 1), ()), [((), "untouched", ())] * 2)

    def test_a_leaf_that_no_clause_takes_stands_behind_what_is_raised(self):
        self.assertEqual(way(K, (take(("net",), ("raise", "io")), ()), T, (1, 1)),
                         [((), "untouched", (1, 0, 1)), ((), "untouched", (1, 0, 1))])

    def test_bare_leaves(self):
        leaf = ("net", 1)
        self.assertEqual(way(K, (take(("disk",), "drop"), take(("io",), "back"), H), leaf, ()),
                         [((), "untouched", ()), ((1, 0), "back", (0,)), ((2, 0), "raised", (0, 0, 0))])
        self.assertEqual(way(K, ((), G, H), leaf, ()), [((), "untouched", ()), ((1, 0), "dropped", None)])

    def test_the_words_of_each_action(self):
        tree = ("m", (("io", 1), ("net", 2)))
        for action, step in [
                ("drop", ((0, 0), "dropped", None)), ("back", ((0, 0), "back", (1,))),
                (("keep", ("net", "net")), ((0, 0), "back", (1,))), (("keep", ("both",)), ((0, 0), "dropped", None)),
                (("raise", "*"), ((0, 0), "raised", (0, 0))), (("raise", "net"), ((0, 0), "dropped", None)),
                (("raise", ("n", ("net", "net", "*"))), ((0, 0), "raised", (0, 2, 0))),
                (("pass", ()), ((0, 0), "back", (1,))), (("pass", take(("net",), "back")), ((0, 0, 0), "back", (1,))),
                (("pass", take(("disk",), "drop")), ((0, 0), "back", (1,))),
                (("pass", take(("io",), "drop")), ((0, 0, 0), "dropped", None)),
                (("pass", take(("io",), ("keep", ("both",)))), ((0, 0, 0), "dropped", None)),
                (("pass", take(("io",), ("raise", "net"))), ((0, 0, 0), "dropped", None)),
                (("pass", take(("io",), ("raise", "*"))), ((0, 0, 0), "raised", (0, 0, 0)))]:
            with self.subTest(action):
                self.assertEqual(way(K, (take(("net",), action),), tree, (1,)), [step])

    def test_if_an_inner_guard_raises_something_all_that_comes_out_is_raised(self):
        tree = ("m", (("both", 1), ("net", 2), ("io", 3), ("disk", 4)))
        inner = ((("both",), ("raise", "io")), (("net",), "back"))
        stack = (take(("io",), ("pass", inner)),)
        self.assertEqual([way(K, stack, tree, (k,)) for k in range(4)], [
            [((0, 0, 0), "dropped", None)], [((0, 0, 1), "raised", (0, 1, 0))],
            [((0, 0), "raised", (0, 1, 1))], [((0, 0), "raised", (0, 1, 2))]])
        rest = ("m", tree[1][1:])
        self.assertEqual([way(K, stack, rest, (k,)) for k in range(3)], [
            [((0, 0, 1), "back", (0,))], [((0, 0), "back", (1,))], [((0, 0), "back", (2,))]])

    def test_what_is_given_back_beside_something_raised_is_back(self):
        guard = ((("net",), ("raise", "*")), (("disk",), "back"))
        tree = ("m", (("net", 1), ("disk", 1), ("io", 1)))
        self.assertEqual([way(K, (guard,), tree, (k,)) for k in range(3)], [
            [((0, 0), "raised", (0, 0))], [((0, 1), "back", (1, 0))], [((), "untouched", (1, 1))]])

    def test_inner_guards_within_inner_guards(self):
        inner = take(("net",), ("pass", ((("disk",), "drop"), (("both", "net"), "back"))))
        stack = (((("disk",), "back"), (("io",), ("pass", inner))),)
        self.assertEqual(way(K, stack, ("m", (("io", 1), ("net", 1))), (1,)), [((0, 1, 0, 1), "back", (1,))])
        self.assertEqual(way(K, stack, ("m", (("io", 1), ("net", 1))), (0,)), [((0, 1), "back", (0,))])

    def test_equal_leaves_have_ways_of_their_own(self):
        stack = (take(("io",), ("raise", ("n", ("net", "*", "net")))),)
        twins = ("", (("net", 0), ("net", 0), ("x", (("net", 0),))))
        self.assertEqual([way(K, stack, twins, place)[0][2] for place in [(0,), (1,), (2, 0)]],
                         [(0, 1, 0), (0, 1, 1), (0, 1, 2, 0)])

    def test_many_stacks_and_trees(self):
        for stack, tree in itertools.product([*ONE_CLAUSE, *EDGES], TREES):
            found = [way(K, stack, tree, place) for place, _ in leaves(tree)]
            self.assertEqual(found, RECKONER.run(stack, tree)[1], (stack, tree))

    def test_made_stacks_and_trees_of_all_families(self):
        for n, bases in enumerate(FAMILIES):
            maker, reckoner = Maker(30 + n, bases), Reckoner(bases)
            for stack, tree in zip(maker.stacks(300), maker.trees(300)):
                found = [way(maker.kinds, stack, tree, place) for place, _ in leaves(tree)]
                self.assertEqual(found, reckoner.run(stack, tree)[1], (stack, tree))

    def test_a_way_leads_to_the_places_of_the_passage(self):
        maker = Maker(40)
        for stack, tree in zip(maker.stacks(200), maker.trees(200)):
            outcomes = list(passage(K, stack, tree))
            for place, leaf in leaves(tree):
                for (_, word, at), outcome in zip(way(K, stack, tree, place), outcomes):
                    self.assertEqual(at is None, word == "dropped")
                    if at is not None:
                        self.assertEqual(dict(leaves(outcome))[at], leaf)

    def test_places_that_are_none(self):
        wrong = [thing for thing in UNLIKE if thing != (1, 2)]
        wrong += [(), (1,), (2,), (-1,), (0, 0), (1, 2), (1, -1), (1, 0, 0), (True,), (False,), (1, False), [0], [1, 0], ["0"],
                  ("0",), (None,), (1, None), ((0,),), (1, (0,)), (10 ** 59,), (1, 10 ** 59), 0, "0", (0, ()), (1, [0])]
        for place in wrong:
            self.told(NoPlace, "place", place, way, K, (G, H), T, place)
            self.told(NoPlace, "place", place, way, K, (), T, place)

    def test_the_place_of_a_bare_leaf_is_empty(self):
        for place in ((0,), (0, 0), [], None, 0, "", False):
            self.told(NoPlace, "place", place, way, K, (G,), ("io", 0), place)
        self.assertEqual(way(K, (G,), ("io", 0), ()), [((), "untouched", ())])

    def test_every_list_is_a_new_one(self):
        found = way(K, (G, H), T, (1, 0))
        self.assertIs(type(found), list)
        found.clear()
        self.assertEqual(len(way(K, (G, H), T, (1, 0))), 2)
        self.assertIsNot(way(K, (), T, (0,)), way(K, (), T, (0,)))

    def test_arguments_by_name(self):
        self.assertEqual(way(place=(0,), tree=T, stack=(G, H), kinds=K), [((0, 0), "dropped", None)])


class TestErrors(Case):

    def test_stacks_that_are_none(self):
        for stack in NO_STACKS:
            self.told(NoStack, "stack", stack, handled, K, stack, T)
            self.told(NoStack, "stack", stack, way, K, stack, T, (0,))

    def test_trees_that_are_none(self):
        for tree in NO_TREES:
            self.told(NoTree, "tree", tree, handled, K, (G, H), tree)
            self.told(NoTree, "tree", tree, handled, K, (), tree)
            self.told(NoTree, "tree", tree, way, K, (G, H), tree, ())

    def test_numbers_that_are_none(self):
        for first in [*NO_NUMBERS, -7, "7", (7,), [7]]:
            self.told(NoNumber, "number", first, handled, K, (G, H), T, first=first)
            self.told(NoNumber, "number", first, handled, K, (), ("io", 1), first=first)

    def test_the_order_of_the_errors(self):
        for stack, tree, first in itertools.product([(G,), 5, [G]], [T, None, ["io", 1]], [1, True, -1]):
            if stack != (G,):
                self.told(NoStack, "stack", stack, handled, K, stack, tree, first=first)
            elif tree != T:
                self.told(NoTree, "tree", tree, handled, K, stack, tree, first=first)
            elif first is True or first == -1:
                self.told(NoNumber, "number", first, handled, K, stack, tree, first=first)
        for stack, tree, place in itertools.product([(G,), 5, [G]], [T, None, ["io", 1]], [(5,), None]):
            if stack != (G,):
                self.told(NoStack, "stack", stack, way, K, stack, tree, place)
            elif tree != T:
                self.told(NoTree, "tree", tree, way, K, stack, tree, place)
            else:
                self.told(NoPlace, "place", place, way, K, stack, tree, place)

    def test_the_kinds_are_those_of_the_table(self):
        kinds = Kinds(net=())
        self.told(NoStack, "stack", (G,), handled, kinds, (G,), ("net", 1))
        self.told(NoTree, "tree", T, handled, kinds, (), T)
        self.told(NoTree, "tree", ("io", 1), handled, Kinds(), (), ("io", 1))
        self.assertEqual(handled(kinds, (take(("net",), "back"),), ("net", 1)), ("", (("net", 1),)))

    def test_a_call_that_raises_changes_nothing(self):
        wrong = [[["io"], "drop"]]
        place = [0, [1]]
        for call in (lambda: handled(K, wrong, T), lambda: handled(K, (), wrong), lambda: list(passage(K, wrong, T)),
                     lambda: way(K, (), T, place), lambda: handled(K, (), T, first=place)):
            with self.assertRaises((NoStack, NoTree, NoPlace, NoNumber)):
                call()
        self.assertEqual((wrong, place), ([[["io"], "drop"]], [0, [1]]))


class TestSizes(Case):

    def test_trees_of_100_groups(self):
        self.assertEqual(handled(K, (take(("net",), "drop"),), DEEP), nested(("", (("io", 2),)), 99, lambda tree: ("", (tree, ("io", 2)))))
        self.assertEqual(handled(K, (raise_("*"),), DEEP), ("", (DEEP,)))
        self.assertEqual(way(K, (raise_("*"), G), DEEP, (0,) * 100), [((0, 0), "raised", (0,) * 101), ((1, 0), "dropped", None)])

    def test_outcomes_of_250_groups_may_be_passed(self):
        tree = nested(("net", 1), 250, lambda inner: ("", (("io", 2), inner)))
        self.assertEqual(handled(K, (take(("net",), "back"), ()), tree), tree)
        self.assertEqual(way(K, (G[1:],), tree, (1,) * 250), [((), "untouched", (1,) * 250)])
        self.assertEqual(list(passage(K, (take(("io",), "drop"),), tree)), [None])

    def test_inner_guards_that_are_100_deep(self):
        guard = nested(take(("net",), "drop"), 100, lambda guard: take(("io",), ("pass", guard)))
        tree = ("m", (("net", 1), ("io", 2)))
        self.assertEqual(handled(K, (guard,), tree), ("m", (("io", 2),)))
        self.assertEqual(way(K, (guard,), tree, (0,)), [((0,) * 102, "dropped", None)])
        self.assertEqual(way(K, (guard,), tree, (1,)), [((0,) * 101, "back", (0,))])
        up = nested(take(("net",), ("raise", "*")), 100, lambda guard: take(("io",), ("pass", guard)))
        self.assertEqual(way(K, (up,), ("net", 1), ()), [((0,) * 102, "raised", (0,) * 102)])

    def test_forms_of_100_groups(self):
        form = nested("*", 100, lambda form: ("", ("net", form)))
        found = handled(K, (raise_(form),), ("io", 1), first=1)
        self.assertEqual([leaf for _, leaf in leaves(found)], [*[("net", k) for k in range(1, 101)], ("io", 1)])

    def test_sixty_leaves_and_six_guards_of_twelve_clauses(self):
        maker = Maker(50, FAMILIES[-1])
        reckoner = Reckoner(FAMILIES[-1])
        for _ in range(10):
            stack = tuple([tuple([(maker.some(2), maker.action(2)) for _ in range(12)]) for _ in range(6)])
            tree = ("m", tuple([(maker.dice.choice(maker.names), k) for k in range(60)]))
            self.assertEqual(handled(maker.kinds, stack, tree, first=100), reckoner.outcome(stack, tree, 100))

    def test_all_actions_for_all_single_kinds(self):
        for action, kind in itertools.product(ACTIONS, K.order):
            stack = (take(("io",), action),)
            self.assertEqual(handled(K, stack, (kind, 8), first=2), RECKONER.outcome(stack, (kind, 8), 2))


class TestConventions(Case):

    def test_arguments_are_unchanged(self):
        kinds = Kinds(io=(), net=("io",), disk=("io",), both=("net", "disk"))
        stack, tree = (G, H, P), T
        handled(kinds, stack, tree, first=3)
        list(passage(kinds, stack, tree))
        way(kinds, stack, tree, (1, 0))
        self.assertEqual((kinds, stack, tree), (K, (G, H, P), ("all", (("net", 1), ("sub", (("disk", 2), ("io", 3)))))))

    def test_returned_values_may_be_passed_again_within_new_groups(self):
        tree = T
        for _ in range(20):
            tree = ("up", (handled(K, (P, H), tree), ("both", 1)))
            self.assertEqual(handled(K, (G, H), tree, first=1), RECKONER.outcome((G, H), tree, 1))

    def test_results_do_not_depend_on_earlier_calls(self):
        first = [handled(K, (G, H), T, first=7), list(passage(K, (G, H), T)), way(K, (G, H), T, (0,))]
        for stack, tree in itertools.product(EDGES, TREES):
            handled(K, stack, tree, first=20)
            next(passage(K, stack, tree), None)
        self.assertEqual([handled(K, (G, H), T, first=7), list(passage(K, (G, H), T)), way(K, (G, H), T, (0,))], first)


if __name__ == "__main__":
    unittest.main()
