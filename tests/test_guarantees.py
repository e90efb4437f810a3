"""Point [3], as far as it is about running, tables and scopes."""

import itertools
import unittest

from errorplaces.running import handled, way
from errorplaces.scopes import Scopes
from errorplaces.tables import Table
from errorplaces.templates import fill
from errorplaces.trees import leaves
from made import BASES, EDGES, FAMILIES, ONE_CLAUSE, Maker, done, under_all
from reckoning import Reckoner, grown, spots
from samples import K, T

RECKONER = Reckoner(BASES)
SETS = under_all(BASES)
TREES = [T, *[(name, 1) for name in K.order], *[("m", ((name, 1),)) for name in K.order], *Maker(200).trees(40)]
STACKS = [*EDGES, *ONE_CLAUSE, *Maker(201).stacks(60)]


class TestTablesAndStacks(unittest.TestCase):

    def test_each_outcome_is_the_row_for_the_kinds_filled_with_the_tree(self):
        for stack in STACKS:
            table = Table(K, *stack)
            for tree in TREES:
                kinds = sorted({leaf.kind for _, leaf in spots(grown(tree))})
                row = table.row(kinds, bare=isinstance(tree[1], int))
                expected = None if row is None else fill(K, row, tree)
                self.assertEqual((handled(K, stack, tree), table(tree)), (expected, expected))

    def test_the_table_of_two_stacks_is_the_composition_of_their_tables(self):
        for one, other in itertools.product(Maker(202).stacks(25), repeat=2):
            self.assertEqual(Table(K, *one).then(Table(K, *other)), Table(K, *one, *other))

    def test_equal_tables_exactly_if_all_outcomes_are_equal(self):
        probes = [(name, 1) for name in K.order] + [("probe", tuple([(name, 1) for name in names])) for names in SETS]
        rows = [(Table(K, *stack), [RECKONER.outcome(stack, tree) for tree in probes]) for stack in STACKS]
        for (one, found), (other, expected) in itertools.combinations(rows, 2):
            self.assertIs(one == other, found == expected)

    def test_stacks_with_equal_tables_have_equal_outcomes(self):
        tables = [Table(K, *stack) for stack in STACKS]
        for (n, one), (k, other) in itertools.combinations(enumerate(STACKS), 2):
            if tables[n] == tables[k]:
                self.assertEqual([handled(K, one, tree) for tree in TREES], [handled(K, other, tree) for tree in TREES])


class TestLeaves(unittest.TestCase):

    def numbered(self, tree):
        """The tree with a number of its own for each leaf, from 1 on."""
        node = grown(tree)
        for number, (_, leaf) in enumerate(spots(node), 1):
            leaf.number = number
        return self.flat(node)

    def flat(self, node):
        if hasattr(node, "kind"):
            return (node.kind, node.number)
        return (node.message, tuple([self.flat(child) for child in node.children]))

    def test_a_leaf_occurs_in_the_outcome_at_most_once(self):
        for stack, tree in itertools.product(STACKS, TREES):
            tree = self.numbered(tree)
            outcome = handled(K, stack, tree)
            found = [leaf for _, leaf in leaves(outcome) if leaf[1] > 0] if outcome else []
            self.assertEqual(len(found), len(set(found)))
            self.assertLessEqual(set(found), {leaf for _, leaf in leaves(tree)})

    def test_what_happens_to_a_leaf_depends_on_its_kind_and_the_stack_alone(self):
        for n, bases in enumerate(FAMILIES):
            maker = Maker(210 + n, bases)
            trees = maker.trees(15)
            for stack in maker.stacks(30):
                fates = {}
                for tree in trees:
                    outcome = handled(maker.kinds, stack, self.numbered(tree))
                    out = {leaf[1] for _, leaf in leaves(outcome)} if outcome else set()
                    for number, (place, (kind, _)) in enumerate(leaves(tree), 1):
                        steps = way(maker.kinds, stack, tree, place)
                        dropped = [address for address, word, _ in steps if word == "dropped"]
                        fates.setdefault(kind, dropped)
                        self.assertEqual(dropped, fates[kind])
                        self.assertEqual(number in out, not dropped)


class TestScopes(unittest.TestCase):

    def made(self, maker, calls, set_too=True):
        """Scopes after so many calls, and the calls."""
        scopes, history = Scopes(maker.kinds), []
        for _ in range(calls):
            history.append(maker.call(scopes, set_too))
            done(scopes, history[-1])
        return scopes, history

    def again(self, kinds, history):
        scopes = Scopes(kinds)
        for call in history:
            done(scopes, call)
        return scopes

    def numbers(self, scopes):
        """All numbers that were given: those in sight, and the dropped ones between them."""
        found = []
        for number in itertools.count(1):
            try:
                scopes.place_of(number)
            except LookupError:
                return found
            found.append(number)

    def in_sight(self, scopes):
        """A list of pairs of a number and a place, for all that is waiting or out."""
        found = []
        for scope in scopes.open_scopes:
            for k, tree in enumerate(scopes.collected(scope)):
                found += [(leaf[1], ("waiting", scope, (k, *place))) for place, leaf in leaves(tree)]
        for scope, tree in scopes.outcomes:
            found += [(leaf[1], ("out", scope, place)) for place, leaf in leaves(tree)]
        return found

    def test_each_number_is_at_exactly_one_place(self):
        for seed in range(80):
            scopes, _ = self.made(Maker(300 + seed, FAMILIES[seed % 5]), 30)
            seen = self.in_sight(scopes)
            self.assertEqual(len(seen), len(dict(seen)))
            for number in self.numbers(scopes):
                place = scopes.place_of(number)
                self.assertEqual(dict(seen).get(number), None if place[0] == "dropped" else place)

    def test_a_destiny_holds_whatever_follows(self):
        for seed in range(80):
            maker = Maker(400 + seed, FAMILIES[seed % 5])
            scopes, _ = self.made(maker, 20)
            told = {number: scopes.destiny(number) for number in self.numbers(scopes)}
            for _ in range(15):
                done(scopes, maker.call(scopes, set_too=False))
                for number in told:
                    self.assertEqual(scopes.destiny(number), told[number])
            for scope in reversed(scopes.open_scopes):
                scopes.close(scope)
            self.assertEqual(scopes.open_scopes, [])
            for number in told:
                place = scopes.place_of(number)
                self.assertEqual(told[number], place if place[0] == "dropped" else place[:2])

    def test_the_order_in_which_scopes_are_closed_leads_to_the_same_places(self):
        compared = 0
        for seed in range(150):
            maker = Maker(500 + seed, FAMILIES[seed % 5])
            scopes, history = self.made(maker, 22)
            parents = [named["parent"] for word, _, named in history if word == "begin"]
            for one, other in itertools.combinations(scopes.open_scopes, 2):
                if not self.is_under(parents, other, one):
                    first, second = self.again(maker.kinds, history), self.again(maker.kinds, history)
                    first.close(one), first.close(other), second.close(other), second.close(one)
                    self.same_places(first, second, self.numbers(scopes))
                    compared += 1
        self.assertGreater(compared, 100)

    def is_under(self, parents, scope, above):
        return scope is not None and (scope == above or self.is_under(parents, parents[scope], above))

    def same_places(self, first, second, old):
        self.assertEqual(len(self.numbers(first)), len(self.numbers(second)))
        self.assertEqual([first.place_of(number) for number in old], [second.place_of(number) for number in old])
        new = self.numbers(first)[len(old):]
        self.assertEqual(sorted([(first.place_of(number), first.kind_of(number)) for number in new]),
                         sorted([(second.place_of(number), second.kind_of(number)) for number in new]))
        self.assertEqual(first.open_scopes, second.open_scopes)


if __name__ == "__main__":
    unittest.main()
