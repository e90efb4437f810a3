"""Point [3]."""

import itertools
import unittest

from errorplaces.desk import Desk
from errorplaces.questions import drops, telling
from errorplaces.records import RecordedScopes
from errorplaces.running import handled, way
from errorplaces.scopes import Scopes
from errorplaces.tables import Table
from errorplaces.templates import fill
from errorplaces.texts import read_stack, read_tree, show_stack, show_template, show_tree
from errorplaces.trees import leaves
from made import BASES, EDGES, FAMILIES, FIVE, ONE_CLAUSE, Maker, done, under_all
from reckoning import Asker, Reckoner, grown, spots
from samples import K, T

RECKONER = Reckoner(BASES)
SETS = under_all(BASES)
TREES = [T, *[(name, 1) for name in K.order], *[("m", ((name, 1),)) for name in K.order], *Maker(200).trees(40)]
STACKS = [*EDGES, *ONE_CLAUSE, *Maker(201).stacks(60)]


def numbers_of(scopes):
    """All numbers that were given: those in sight, and the dropped ones between them."""
    found = []
    for number in itertools.count(1):
        try:
            scopes.place_of(number)
        except LookupError:
            return found
        found.append(number)


class TestTablesAndStacks(unittest.TestCase):

    def test_each_outcome_is_the_row_for_the_kinds_filled_with_the_tree(self):
        for stack in STACKS:
            table = Table(K, *stack)
            for tree in TREES:
                kinds = sorted({leaf.kind for _, leaf in spots(grown(tree))})
                row = table.row(kinds, bare=isinstance(tree[1], int))
                expected = None if row is None else fill(K, row, tree)
                self.assertEqual((handled(K, stack, tree), table(tree)), (expected, expected))

    def test_the_table_of_two_stacks_is_the_composition_of_their_tables(self):
        for one, other in itertools.product(Maker(202).stacks(25), repeat=2):
            self.assertEqual(Table(K, *one).then(Table(K, *other)), Table(K, *one, *other))

    def test_equal_tables_exactly_if_all_outcomes_are_equal(self):
        probes = [(name, 1) for name in K.order] + [("probe", tuple([(name, 1) for name in names])) for names in SETS]
        rows = [(Table(K, *stack), [RECKONER.outcome(stack, tree) for tree in probes]) for stack in STACKS]
        for (one, found), (other, expected) in itertools.combinations(rows, 2):
            self.assertIs(one == other, found == expected)

    def test_stacks_with_equal_tables_have_equal_outcomes(self):
        tables = [Table(K, *stack) for stack in STACKS]
        for (n, one), (k, other) in itertools.combinations(enumerate(STACKS), 2):
            if tables[n] == tables[k]:
                self.assertEqual([handled(K, one, tree) for tree in TREES], [handled(K, other, tree) for tree in TREES])


    def test_unequal_tables_are_told_apart_by_a_tree_with_the_fewest_leaves(self):
        asker = Asker(BASES)
        told = [(Table(K, *stack), asker.outcomes(stack)) for stack in STACKS]
        leaves_of = [len(spots(grown(probe))) for probe in asker.probes]
        for (one, found), (other, expected) in itertools.combinations(told, 2):
            tree = telling(one, other)
            apart = [many for many, left, right in zip(leaves_of, found, expected) if left != right]
            self.assertEqual((tree is None, one == other), (not apart, not apart))
            if apart:
                self.assertEqual(len(list(leaves(tree))), min(apart))
                self.assertNotEqual(one(tree), other(tree))

    def test_five_kinds_and_three_guards(self):
        maker, reckoner = Maker(203, FIVE), Reckoner(FIVE)
        for _ in range(20):
            stack = tuple([maker.guard() for _ in range(3)])
            table = Table(maker.kinds, *stack)
            self.assertEqual(table, Table(maker.kinds, stack[0]).then(Table(maker.kinds, stack[1]), Table(maker.kinds, stack[2])))
            for tree in maker.trees(20):
                self.assertEqual(table(tree), reckoner.outcome(stack, tree))
                self.assertEqual(handled(maker.kinds, stack, tree), reckoner.outcome(stack, tree))


class TestLeaves(unittest.TestCase):

    def numbered(self, tree):
        """The tree with a number of its own for each leaf, from 1 on."""
        node = grown(tree)
        for number, (_, leaf) in enumerate(spots(node), 1):
            leaf.number = number
        return self.flat(node)

    def flat(self, node):
        if hasattr(node, "kind"):
            return (node.kind, node.number)
        return (node.message, tuple([self.flat(child) for child in node.children]))

    def test_a_leaf_occurs_in_the_outcome_at_most_once(self):
        for stack, tree in itertools.product(STACKS, TREES):
            tree = self.numbered(tree)
            outcome = handled(K, stack, tree)
            found = [leaf for _, leaf in leaves(outcome) if leaf[1] > 0] if outcome else []
            self.assertEqual(len(found), len(set(found)))
            self.assertLessEqual(set(found), {leaf for _, leaf in leaves(tree)})

    def test_what_happens_to_a_leaf_depends_on_its_kind_and_the_stack_alone(self):
        for n, bases in enumerate(FAMILIES):
            maker = Maker(210 + n, bases)
            trees = maker.trees(15)
            for stack in maker.stacks(30):
                fates = {}
                for tree in trees:
                    outcome = handled(maker.kinds, stack, self.numbered(tree))
                    out = {leaf[1] for _, leaf in leaves(outcome)} if outcome else set()
                    for number, (place, (kind, _)) in enumerate(leaves(tree), 1):
                        steps = way(maker.kinds, stack, tree, place)
                        dropped = [address for address, word, _ in steps if word == "dropped"]
                        fates.setdefault(kind, dropped)
                        self.assertEqual(dropped, fates[kind])
                        self.assertEqual(number in out, not dropped)
                        self.assertEqual(dropped, [address for address in [drops(maker.kinds, stack)[kind]] if address is not None])


class TestScopes(unittest.TestCase):

    def made(self, maker, calls, set_too=True):
        """Scopes after so many calls, and the calls."""
        scopes, history = Scopes(maker.kinds), []
        for _ in range(calls):
            history.append(maker.call(scopes, set_too))
            done(scopes, history[-1])
        return scopes, history

    def again(self, kinds, history):
        scopes = Scopes(kinds)
        for call in history:
            done(scopes, call)
        return scopes

    def in_sight(self, scopes):
        """A list of pairs of a number and a place, for all that is waiting or out."""
        found = []
        for scope in scopes.open_scopes:
            for k, tree in enumerate(scopes.collected(scope)):
                found += [(leaf[1], ("waiting", scope, (k, *place))) for place, leaf in leaves(tree)]
        for scope, tree in scopes.outcomes:
            found += [(leaf[1], ("out", scope, place)) for place, leaf in leaves(tree)]
        return found

    def test_each_number_is_at_exactly_one_place(self):
        for seed in range(80):
            scopes, _ = self.made(Maker(300 + seed, FAMILIES[seed % 5]), 30)
            seen = self.in_sight(scopes)
            self.assertEqual(len(seen), len(dict(seen)))
            for number in numbers_of(scopes):
                place = scopes.place_of(number)
                self.assertEqual(dict(seen).get(number), None if place[0] == "dropped" else place)

    def test_a_destiny_holds_whatever_follows(self):
        for seed in range(80):
            maker = Maker(400 + seed, FAMILIES[seed % 5])
            scopes, _ = self.made(maker, 20)
            told = {number: scopes.destiny(number) for number in numbers_of(scopes)}
            for _ in range(15):
                done(scopes, maker.call(scopes, set_too=False))
                for number in told:
                    self.assertEqual(scopes.destiny(number), told[number])
            for scope in reversed(scopes.open_scopes):
                scopes.close(scope)
            self.assertEqual(scopes.open_scopes, [])
            for number in told:
                place = scopes.place_of(number)
                self.assertEqual(told[number], place if place[0] == "dropped" else place[:2])

    def test_the_order_in_which_scopes_are_closed_leads_to_the_same_places(self):
        compared = 0
        for seed in range(150):
            maker = Maker(500 + seed, FAMILIES[seed % 5])
            scopes, history = self.made(maker, 22)
            parents = [named["parent"] for word, _, named in history if word == "begin"]
            for one, other in itertools.combinations(scopes.open_scopes, 2):
                if not self.is_under(parents, other, one):
                    first, second = self.again(maker.kinds, history), self.again(maker.kinds, history)
                    first.close(one), first.close(other), second.close(other), second.close(one)
                    self.same_places(first, second, numbers_of(scopes))
                    compared += 1
        self.assertGreater(compared, 100)

    def is_under(self, parents, scope, above):
        return scope is not None and (scope == above or self.is_under(parents, parents[scope], above))

    def same_places(self, first, second, old):
        self.assertEqual(len(numbers_of(first)), len(numbers_of(second)))
        self.assertEqual([first.place_of(number) for number in old], [second.place_of(number) for number in old])
        new = numbers_of(first)[len(old):]
        self.assertEqual(sorted([(first.place_of(number), first.kind_of(number)) for number in new]),
                         sorted([(second.place_of(number), second.kind_of(number)) for number in new]))
        self.assertEqual(first.open_scopes, second.open_scopes)

    def test_recorded_scopes_and_their_replays_have_the_same_places(self):
        for seed in range(60):
            maker = Maker(700 + seed, [*FAMILIES, FIVE][seed % 6])
            scopes, recorded = Scopes(maker.kinds), RecordedScopes(maker.kinds)
            for _ in range(30):
                call = maker.call(scopes)
                self.assertEqual(done(recorded, call), done(scopes, call))
            for other in (recorded, recorded.replayed(), recorded.replayed().replayed()):
                self.assertEqual((other.outcomes, other.open_scopes), (scopes.outcomes, scopes.open_scopes))
                self.same_places(scopes, other, numbers_of(scopes))


class TestTexts(unittest.TestCase):
    """Texts stand for values, and a desk answers in texts what is returned for values."""

    def test_texts_of_stacks_trees_and_outcomes(self):
        for stack in STACKS:
            self.assertEqual(read_stack(K, show_stack(stack)), stack)
        for stack, tree in zip(Maker(800).stacks(300), Maker(801).trees(300)):
            self.assertEqual(read_tree(K, show_tree(tree)), tree)
            outcome = handled(K, stack, tree, first=5)
            if outcome is not None:
                self.assertEqual(read_tree(K, show_tree(outcome)), outcome)

    def test_handle_and_row(self):
        desk = Desk()
        desk.say("kinds io net<io disk<io both<net,disk")
        for stack, tree in zip(STACKS, itertools.cycle(TREES)):
            text = " " + show_stack(stack) if stack else ""
            outcome = handled(K, stack, tree)
            self.assertEqual(desk.say(f"handle {show_tree(tree)}{text}"), "-" if outcome is None else show_tree(outcome))
            for names in SETS:
                row = Table(K, *stack).row(names)
                self.assertEqual(desk.say(f"row {','.join(names)}{text}"), "-" if row is None else show_template(row))

    def test_histories_of_thirty_calls(self):
        for seed in range(40):
            maker, desk = Maker(810 + seed), Desk()
            desk.say("kinds io net<io disk<io both<net,disk")
            scopes = Scopes(K)
            for _ in range(30):
                call = maker.call(scopes)
                if call[0] != "raise_in" or len(call[1]) > 1:
                    self.assertEqual(desk.say(self.command(call)), self.answer(call[0], done(scopes, call)))
            for number in numbers_of(scopes):
                self.assertEqual(desk.say(f"place {number}"), self.words(*scopes.place_of(number)))
                self.assertEqual(desk.say(f"destiny {number}"), self.words(*scopes.destiny(number)))

    def command(self, call):
        word, (first, *rest), named = call
        if word == "raise_in":
            return f"raise {first} {','.join(rest)}"
        if word == "close":
            return f"close {first}"
        stack = " " + show_stack(tuple(rest)) if rest else ""
        if word == "set_stack":
            return f"set {first}{stack}"
        return (f"open {first}" if named["parent"] is None else f"under {named['parent']} {first}") + stack

    def answer(self, word, found):
        if word == "raise_in":
            return " ".join([str(number) for number in found])
        if word == "begin":
            return str(found)
        if word == "set_stack":
            return "ok"
        return "-" if found is None else show_tree(found)

    def words(self, word, scope, *further):
        return " ".join([word, str(scope), *[".".join([str(index) for index in indices]) for indices in further]])


if __name__ == "__main__":
    unittest.main()
