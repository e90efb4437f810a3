import itertools
import unittest

from errorplaces.errors import Closed, NoError, NoKind, NoMessage, NoScope, NoStack, TooMany
from errorplaces.kinds import Kinds
from errorplaces.running import handled
from errorplaces.scopes import Scopes
from cases import Case
from made import EDGES, FAMILIES, ONE_CLAUSE, Maker, done
from reckoning import ReckonedScopes, spots, grown
from samples import G, H, K, P, UNLIKE, as_lists, nested

ALL_DROP = ((("io",), "drop"),)
NO_MESSAGES = [thing for thing in [*UNLIKE, "m1", "M", "abcdefghi", ("m",), ["m"]] if thing != "cpu"]
NO_GUARDS = [thing for thing in [*UNLIKE, list(G), (G,), G[0], "drop", ((("cpu",), "drop"),), as_lists(G)] if thing != ()]
NO_SCOPES = [thing for thing in UNLIKE if isinstance(thing, bool) or not isinstance(thing, int) or not 0 <= thing <= 1]
NO_SCOPES += [2, 3, 60, "0", (0,), [0], [1]]


def seen(scopes, errors):
    """All that can be asked, where there are so many errors."""
    return ([(scopes.place_of(n), scopes.destiny(n), scopes.kind_of(n)) for n in range(1, errors + 1)],
            scopes.outcomes, scopes.open_scopes, [scopes.collected(n) for n in scopes.open_scopes], len(scopes))


def many_errors(scopes):
    """How many numbers were given, found by asking for one after the other."""
    for n in itertools.count(1):
        try:
            scopes.kind_of(n)
        except NoError:
            return n - 1


class TestExamples(Case):

    def test_the_examples_of_the_document(self):
        s = Scopes(K)
        self.assertEqual([s.begin("day", H), s.begin("job", G, parent=0), s.raise_in(1, "net", "io"), s.raise_in(0, "disk")],
                         [0, 1, [1, 2], [3]])
        self.assertEqual([s.destiny(1), s.destiny(3), s.close(1)],
                         [("dropped", 1, (0, 0)), ("out", 0), ("job", (("io", 2),))])
        self.assertEqual([s.collected(0), s.place_of(1), s.place_of(2)],
                         [[("job", (("io", 2),)), ("disk", 3)], ("dropped", 1, (0, 0)), ("waiting", 0, (0, 0))])
        self.assertEqual(s.close(0), ("", (("note", (("day", (("job", (("io", 2),)), ("disk", 3))), ("net", 4))),)))
        self.assertEqual([s.place_of(2), s.place_of(4), s.kind_of(4)], [("out", 0, (0, 0, 0, 0)), ("out", 0, (0, 1)), "net"])

    def test_nothing_yet(self):
        for kinds in (Kinds(), K):
            s = Scopes(kinds)
            self.assertEqual((len(s), s.outcomes, s.open_scopes), (0, [], []))
            self.told(NoScope, "scope", 0, s.close, 0)
            self.told(NoError, "number", 1, s.place_of, 1)

    def test_the_limit(self):
        self.assertEqual((Scopes.LIMIT, Scopes(K).LIMIT, type(Scopes.LIMIT)), (60, 60, int))

    def test_it_is_made_by_name(self):
        self.assertEqual(Scopes(kinds=K).begin("m", G), 0)

    def test_two_objects_are_equal_only_if_they_are_the_same(self):
        one, other = Scopes(K), Scopes(K)
        self.assertTrue(one == one)
        self.assertFalse(one != one)
        self.assertFalse(one == other)
        self.assertTrue(one != other)
        for thing in [*UNLIKE, Scopes, K, object()]:
            self.assertFalse(one == thing)
            self.assertFalse(thing == one)


class TestBegin(Case):

    def test_scopes_are_numbered_as_they_are_opened(self):
        s = Scopes(K)
        self.assertEqual([s.begin("a"), s.begin("b", G), s.begin("c", G, H, parent=1), s.begin("b", parent=None)], [0, 1, 2, 3])
        s.close(1)
        self.assertEqual([s.begin("e", (), parent=0), s.begin("f")], [4, 5])
        self.assertEqual((s.open_scopes, len(s)), ([0, 3, 4, 5], 4))

    def test_the_guards_are_a_stack(self):
        for stack in [*EDGES, *ONE_CLAUSE]:
            s = Scopes(K)
            s.begin("day", *stack)
            s.raise_in(0, "net", "io", "disk", "both")
            tree = ("day", (("net", 1), ("io", 2), ("disk", 3), ("both", 4)))
            self.assertEqual(s.close(0), handled(K, stack, tree, first=5))

    def test_messages_that_are_none(self):
        s = Scopes(K)
        for message in NO_MESSAGES:
            self.told(NoMessage, "message", message, s.begin, message)
            self.told(NoMessage, "message", message, s.begin, message, G)
        self.assertEqual([s.begin(message="a"), s.begin("abcdefgh"), s.begin("net")], [0, 1, 2])

    def test_stacks_that_are_none(self):
        s = Scopes(K)
        for thing in NO_GUARDS:
            for guards in ((thing,), (G, thing), (thing, G)):
                self.told(NoStack, "stack", guards, s.begin, "day", *guards)
        self.told(NoStack, "stack", (G,), Scopes(Kinds(net=())).begin, "day", G)
        self.assertEqual(s.begin("day"), 0)

    def test_parents_that_are_none(self):
        s = Scopes(K)
        s.begin("a"), s.begin("b")
        for parent in [thing for thing in NO_SCOPES if thing is not None]:
            self.told(NoScope, "scope", parent, s.begin, "c", G, parent=parent)
        self.told(NoScope, "scope", 0, Scopes(K).begin, "c", parent=0)
        s.close(0)
        self.told(Closed, "scope", 0, s.begin, "c", parent=0)
        self.assertEqual(s.begin("c", parent=1), 2)

    def test_sixty_scopes_and_one_more(self):
        s = Scopes(K)
        self.assertEqual([s.begin("day") for _ in range(60)], list(range(60)))
        self.told(TooMany, "limit", 60, s.begin, "day")
        self.told(TooMany, "limit", 60, s.begin, "day", G, parent=7)
        for n in range(30):
            s.close(n)
        self.told(TooMany, "limit", 60, s.begin, "day")
        self.assertEqual((len(s), s.open_scopes), (30, list(range(30, 60))))
        self.assertEqual(s.raise_in(59, "io"), [1])
        self.assertEqual(s.collected(59), [("io", 1)])

    def test_the_order_of_the_errors(self):
        full = Scopes(K)
        for _ in range(60):
            full.begin("day")
        full.close(0)
        messages = [("day", None), ("", (NoMessage, "message", "")), (None, (NoMessage, "message", None))]
        stacks = [((G,), None), ((G, 5), (NoStack, "stack", (G, 5))), (([],), (NoStack, "stack", ([],)))]
        parents = [(9, None), (None, None), (60, (NoScope, "scope", 60)), (True, (NoScope, "scope", True)),
                   ("0", (NoScope, "scope", "0")), (0, (Closed, "scope", 0))]
        for rows in itertools.product(messages, stacks, parents):
            (message, _), (guards, _), (parent, _) = rows
            due = [error for _, error in rows if error is not None]
            error, field, value = [*due, (TooMany, "limit", 60)][0]
            self.told(error, field, value, full.begin, message, *guards, parent=parent)
        self.assertEqual(len(full), 59)


class TestCalls(Case):

    def setUp(self):
        self.scopes = Scopes(K)
        self.scopes.begin("day", H)
        self.scopes.begin("job", G, parent=0)

    def test_scopes_that_are_none(self):
        s = self.scopes
        for scope in NO_SCOPES:
            for call in (s.close, s.collected, lambda it: s.raise_in(it, "cpu"), lambda it: s.set_stack(it, 5), s.raise_in, s.set_stack):
                self.told(NoScope, "scope", scope, call, scope)
        self.assertEqual(s.open_scopes, [0, 1])

    def test_scopes_that_are_closed(self):
        s = self.scopes
        s.close(1)
        for call in (s.close, s.collected, lambda it: s.raise_in(it, "cpu"), lambda it: s.set_stack(it, 5), s.raise_in, s.set_stack):
            self.told(Closed, "scope", 1, call, 1)
        self.assertEqual((s.open_scopes, s.raise_in(0, "io")), ([0], [1]))

    def test_stacks_that_are_none(self):
        for thing in NO_GUARDS:
            for guards in ((thing,), (G, thing), (thing, G)):
                self.told(NoStack, "stack", guards, self.scopes.set_stack, 1, *guards)
        self.scopes.raise_in(1, "net", "io")
        self.assertEqual(self.scopes.close(1), ("job", (("io", 2),)))

    def test_kinds_that_are_none(self):
        s = self.scopes
        for thing in UNLIKE:
            self.told(NoKind, "name", thing, s.raise_in, 1, thing)
            self.told(NoKind, "name", thing, s.raise_in, 1, "io", thing, "net", None, "web")
        self.assertEqual((s.collected(1), s.raise_in(1, "io")), ([], [1]))
        self.told(NoKind, "name", "io", self.other_kinds().raise_in, 0, "net", "io")

    def other_kinds(self):
        s = Scopes(Kinds(net=()))
        s.begin("day")
        return s

    def test_numbers_that_are_none(self):
        s = self.scopes
        s.raise_in(1, "net", "io")
        wrong = [thing for thing in UNLIKE if isinstance(thing, bool) or not isinstance(thing, int) or thing not in (1, 2)]
        for number in [*wrong, 0, 3, -2, 10 ** 59, "1", (1,), [2], True]:
            for call in (s.place_of, s.destiny, s.kind_of):
                self.told(NoError, "number", number, call, number)

    def test_raise_in(self):
        s = self.scopes
        self.assertEqual([s.raise_in(0), s.raise_in(1, "net"), s.raise_in(0, "io", "io", "both"), s.raise_in(1)], [[], [1], [2, 3, 4], []])
        self.assertEqual((s.collected(0), s.collected(1)), ([("io", 2), ("io", 3), ("both", 4)], [("net", 1)]))
        self.assertEqual([s.kind_of(n) for n in (1, 2, 3, 4)], ["net", "io", "io", "both"])

    def test_set_stack(self):
        s = self.scopes
        s.raise_in(1, "net", "disk")
        self.assertEqual([s.destiny(1), s.destiny(2)], [("dropped", 1, (0, 0)), ("out", 0)])
        self.assertIsNone(s.set_stack(1, (), ((("both",), "back"), (("disk",), "drop"))))
        self.assertEqual([s.destiny(1), s.destiny(2)], [("out", 0), ("dropped", 1, (1, 1))])
        self.assertIsNone(s.set_stack(scope=1))
        self.assertEqual([s.destiny(1), s.destiny(2)], [("out", 0), ("out", 0)])
        self.assertEqual(s.close(1), ("job", (("net", 1), ("disk", 2))))
        s.set_stack(0, ALL_DROP)
        self.assertEqual([s.destiny(1), s.destiny(2), s.close(0), s.place_of(2)],
                         [("dropped", 0, (0, 0)), ("dropped", 0, (0, 0)), None, ("dropped", 0, (0, 0))])

    def test_arguments_by_name(self):
        s = Scopes(K)
        s.begin(message="day", parent=None)
        self.assertEqual(s.raise_in(0, "io"), [1])
        self.assertEqual([s.collected(scope=0), s.place_of(number=1), s.destiny(number=1), s.kind_of(number=1), s.close(scope=0)],
                         [[("io", 1)], ("waiting", 0, (0,)), ("out", 0), "io", ("day", (("io", 1),))])

    def test_the_order_of_the_errors(self):
        s = self.scopes
        s.close(1)
        for scope, thing in itertools.product([0, 1, 2, True, None], ["cpu", None, []]):
            if scope is True or scope not in (0, 1):
                self.told(NoScope, "scope", scope, s.raise_in, scope, "io", thing)
                self.told(NoScope, "scope", scope, s.set_stack, scope, thing)
            elif scope == 1:
                self.told(Closed, "scope", scope, s.raise_in, scope, "io", thing)
                self.told(Closed, "scope", scope, s.set_stack, scope, thing)
            else:
                self.told(NoKind, "name", thing, s.raise_in, scope, "io", thing)
                self.told(NoStack, "stack", (G, thing), s.set_stack, scope, G, thing)


class TestClose(Case):

    def test_a_scope_without_entries_has_no_outcome(self):
        s = Scopes(K)
        s.begin("day", H), s.begin("job", H, parent=0), s.begin("job", H, parent=1)
        self.assertIsNone(s.close(0))
        self.assertEqual((s.outcomes, s.open_scopes, len(s)), ([], [], 0))

    def test_the_outcome_goes_to_the_entry_in_the_parent(self):
        s = Scopes(K)
        s.begin("day"), s.raise_in(0, "io"), s.begin("a", parent=0), s.raise_in(0, "net"), s.begin("b", parent=0), s.raise_in(0, "disk")
        s.raise_in(1, "both"), s.raise_in(2, "both")
        self.assertEqual(s.collected(0), [("io", 1), ("net", 2), ("disk", 3)])
        self.assertEqual([s.place_of(n) for n in (1, 2, 3)], [("waiting", 0, (0,)), ("waiting", 0, (1,)), ("waiting", 0, (2,))])
        self.assertEqual(s.close(2), ("b", (("both", 5),)))
        self.assertEqual(s.collected(0), [("io", 1), ("net", 2), ("b", (("both", 5),)), ("disk", 3)])
        self.assertEqual([s.place_of(n) for n in (1, 2, 3, 4, 5)], [
            ("waiting", 0, (0,)), ("waiting", 0, (1,)), ("waiting", 0, (3,)), ("waiting", 1, (0,)), ("waiting", 0, (2, 0))])
        self.assertEqual(s.close(1), ("a", (("both", 4),)))
        self.assertEqual([s.place_of(n) for n in (1, 2, 3, 4, 5)], [
            ("waiting", 0, (0,)), ("waiting", 0, (2,)), ("waiting", 0, (4,)), ("waiting", 0, (1, 0)), ("waiting", 0, (3, 0))])
        self.assertEqual(s.close(0), ("day", (("io", 1), ("a", (("both", 4),)), ("net", 2), ("b", (("both", 5),)), ("disk", 3))))
        self.assertEqual([s.place_of(n) for n in (1, 2, 3, 4, 5)], [
            ("out", 0, (0,)), ("out", 0, (2,)), ("out", 0, (4,)), ("out", 0, (1, 0)), ("out", 0, (3, 0))])

    def test_an_outcome_that_is_nothing_leaves_the_entry_empty(self):
        s = Scopes(K)
        s.begin("day"), s.begin("job", ALL_DROP, parent=0), s.raise_in(1, "net"), s.raise_in(0, "io")
        self.assertIsNone(s.close(1))
        self.assertEqual((s.collected(0), s.place_of(2), s.place_of(1)), ([("io", 2)], ("waiting", 0, (0,)), ("dropped", 1, (0, 0))))
        s.begin("job", ALL_DROP)
        s.raise_in(2, "io")
        self.assertEqual((s.close(2), s.outcomes), (None, []))

    def test_a_scope_that_is_closed_from_above(self):
        s = Scopes(K)
        s.begin("top"), s.begin("a", H, parent=0), s.begin("b", G, parent=1), s.begin("c", parent=0), s.begin("other")
        s.raise_in(2, "net", "disk"), s.raise_in(1, "io"), s.raise_in(3, "both"), s.raise_in(0, "io"), s.raise_in(4, "io")
        noted = ("note", (("a", (("b", (("disk", 2),)), ("io", 3))), ("net", 7)))
        self.assertEqual(s.close(0), ("top", (("", (noted,)), ("c", (("both", 4),)), ("io", 5))))
        self.assertEqual((s.open_scopes, s.place_of(1), s.place_of(7)), ([4], ("dropped", 2, (0, 0)), ("out", 0, (0, 0, 1))))
        for scope in (0, 1, 2, 3):
            self.told(Closed, "scope", scope, s.close, scope)

    def test_scopes_below_are_closed_in_the_order_of_their_numbers(self):
        up = ((("io",), ("raise", ("n", ("net", "*")))),)
        s = Scopes(K)
        s.begin("top", up), s.begin("a", up, parent=0), s.begin("b", up, parent=0), s.begin("c", up, parent=1)
        for scope in (3, 2, 1, 0):
            s.raise_in(scope, "io")
        # First c, which is under a, then a, then b, then the top.
        found = {leaf.number: leaf.kind for _, leaf in spots(grown(s.close(0)))}
        self.assertEqual(sorted(found), [1, 2, 3, 4, 5, 6, 7, 8])
        self.assertEqual([s.place_of(n) for n in (5, 6, 7, 8)],
                         [("out", 0, (0, 1, 0, 0, 1, 0, 0, 0)), ("out", 0, (0, 1, 0, 0, 0)), ("out", 0, (0, 1, 1, 0, 0)),
                          ("out", 0, (0, 0))])

    def test_the_stack_that_the_scope_has_now_runs(self):
        s = Scopes(K)
        s.begin("day", ALL_DROP), s.raise_in(0, "io")
        s.set_stack(0, H)
        self.assertEqual(s.close(0), ("", (("note", (("day", (("io", 1),)), ("net", 2))),)))

    def test_new_leaves_that_are_dropped_later_have_numbers_and_places(self):
        s = Scopes(K)
        up = ((("io",), ("raise", ("n", ("net", "*", "disk")))),)
        s.begin("day", up, ((("net",), "drop"),), up)
        s.raise_in(0, "io")
        self.assertEqual(s.close(0), ("", (("n", (("net", 4), ("", (("n", (("day", (("io", 1),)), ("disk", 3))),)), ("disk", 5))),)))
        self.assertEqual([s.place_of(n) for n in range(1, 6)], [
            ("out", 0, (0, 1, 0, 0, 0)), ("dropped", 0, (1, 0)), ("out", 0, (0, 1, 0, 1)), ("out", 0, (0, 0)), ("out", 0, (0, 2))])
        self.assertEqual([s.kind_of(n) for n in range(1, 6)], ["io", "net", "disk", "net", "disk"])
        self.told(NoError, "number", 6, s.place_of, 6)

    def test_an_inner_guard_drops(self):
        inner = ((("net",), "drop"), (("disk",), ("keep", ("both",))))
        s = Scopes(K)
        s.begin("day", (), ((("both",), "back"), (("io",), ("pass", inner))))
        s.raise_in(0, "net", "disk", "io", "both")
        self.assertEqual(s.close(0), ("day", (("io", 3), ("both", 4))))
        self.assertEqual([s.place_of(1), s.place_of(2)], [("dropped", 0, (1, 1, 0)), ("dropped", 0, (1, 1, 1))])

    def test_outcomes_are_in_the_order_of_the_scopes(self):
        s = Scopes(K)
        for message in "abcd":
            s.raise_in(s.begin(message), "io")
        s.begin("e", parent=2), s.raise_in(4, "net")
        for scope in (3, 4, 2, 0):
            s.close(scope)
        self.assertEqual(s.outcomes, [(0, ("a", (("io", 1),))), (2, ("c", (("io", 3), ("e", (("net", 5),))))), (3, ("d", (("io", 4),)))])


class TestDestiny(Case):

    def test_it_follows_the_scopes_above(self):
        s = Scopes(K)
        s.begin("top", G), s.begin("a", ((("io",), "back"),), parent=0), s.begin("b", H, parent=1)
        s.raise_in(2, "net", "io", "disk")
        self.assertEqual([s.destiny(n) for n in (1, 2, 3)], [("dropped", 0, (0, 0)), ("out", 0), ("out", 0)])
        s.close(2)
        self.assertEqual([s.destiny(n) for n in (1, 2, 3, 4)], [("dropped", 0, (0, 0)), ("out", 0), ("out", 0), ("dropped", 0, (0, 0))])
        s.set_stack(1, ((("disk",), ("raise", "net")),))
        self.assertEqual([s.destiny(n) for n in (1, 2, 3)], [("dropped", 0, (0, 0)), ("out", 0), ("dropped", 1, (0, 0))])
        s.close(0)
        self.assertEqual([s.destiny(n) for n in (1, 2, 3)], [("dropped", 0, (0, 0)), ("out", 0), ("dropped", 1, (0, 0))])

    def test_an_error_that_is_out_stays_out(self):
        s = Scopes(K)
        s.begin("a"), s.begin("b", ALL_DROP)
        s.raise_in(0, "net")
        s.close(0)
        self.assertEqual((s.destiny(1), s.place_of(1)), (("out", 0), ("out", 0, (0,))))

    def test_a_destiny_does_not_depend_on_what_else_is_there(self):
        inner = ((("net",), ("raise", "io")), (("disk",), "back"))
        s = Scopes(K)
        s.begin("day", ((("io",), ("pass", inner)),))
        s.raise_in(0, "net", "disk", "io")
        before = [s.destiny(n) for n in (1, 2, 3)]
        self.assertEqual(before, [("dropped", 0, (0, 0, 0)), ("out", 0), ("out", 0)])
        s.begin("job", H, parent=0), s.raise_in(1, "both")
        self.assertEqual([s.destiny(n) for n in (1, 2, 3)], before)

    def test_all_actions(self):
        for stack, kind in itertools.product([*ONE_CLAUSE, *EDGES], K.order):
            s = Scopes(K)
            s.begin("day", *stack)
            s.raise_in(0, kind, "disk", "net")
            told = s.destiny(1)
            s.close(0)
            self.assertEqual(told, s.destiny(1))
            self.assertEqual(told, s.place_of(1) if told[0] == "dropped" else s.place_of(1)[:2])

    def test_sixty_scopes_under_each_other(self):
        up = ((("io",), ("raise", ("n", ("*", "disk")))),)
        s, expected = Scopes(K), ReckonedScopes(FAMILIES[0])
        for n in range(60):
            for scopes in (s, expected):
                scopes.begin("day", up if n else G, parent=n - 1 if n else None)
                scopes.raise_in(n, "net", "io")
        self.assertEqual([s.destiny(n) for n in range(1, 121)], [("dropped", 0, (0, 0)), ("out", 0)] * 60)
        self.assertEqual(s.close(0), expected.close(0))
        places = expected.places()
        self.assertEqual(len(places), 179)
        for number in places:
            self.assertEqual([s.place_of(number)], places[number])
        self.assertEqual(max(len(s.place_of(number)[2]) for number in places), 178)

    def test_outcomes_of_240_groups(self):
        up = ((("io",), ("raise", ("n", (("m", ("*",)),)))),)
        s = Scopes(K)
        for n in range(60):
            s.begin("day", up, parent=n - 1 if n else None)
        s.raise_in(59, "io")
        outcome = nested(("io", 1), 60, lambda tree: ("", (("n", (("m", (("day", (tree,)),)),)),)))
        self.assertEqual(s.destiny(1), ("out", 0))
        self.assertTrue(s.close(0) == outcome)
        self.assertEqual((s.place_of(1), s.destiny(1)), (("out", 0, (0,) * 240), ("out", 0)))

    def test_sixty_scopes_of_seven_kinds(self):
        maker = Maker(110, FAMILIES[-1])
        s, expected = Scopes(maker.kinds), ReckonedScopes(FAMILIES[-1])
        for n in range(60):
            stack = tuple([maker.guard() for _ in range(2)])
            for scopes in (s, expected):
                scopes.begin("day", *stack, parent=(n - 1) // 2 if n else None)
                scopes.raise_in(n, "a", "d", "f", "g")
        told = [s.destiny(n) for n in range(1, 241)]
        self.assertEqual(s.close(1), expected.close(1))
        self.assertEqual([s.destiny(n) for n in range(1, 241)], told)
        self.assertEqual(s.close(0), expected.close(0))
        places = expected.places()
        for number in places:
            self.assertEqual([s.place_of(number)], places[number])
        self.assertEqual([s.destiny(n) for n in range(1, 241)], told)


class TestConventions(Case):

    def test_every_list_is_a_new_one(self):
        s = Scopes(K)
        s.begin("a", H), s.begin("b", parent=0), s.begin("c")
        s.raise_in(2, "io"), s.close(2)
        numbers = s.raise_in(0, "io", "net")
        before = seen(s, 3)
        for found in (numbers, s.outcomes, s.open_scopes, s.collected(0), s.collected(1)):
            self.assertIs(type(found), list)
            found.append(("io", 99))
            found.reverse()
        self.assertEqual(seen(s, 3), before)
        self.assertEqual(s.close(1), None)
        self.assertEqual([len(found) for found in (s.outcomes, s.open_scopes, s.collected(0))], [1, 1, 2])

    def test_arguments_are_unchanged(self):
        s = Scopes(K)
        guards, names = [G, H], ["io", "net"]
        s.begin("a", *guards), s.raise_in(0, *names), s.set_stack(0, *guards)
        wrong = [["io"], "drop"]
        with self.assertRaises(NoStack) as caught:
            s.begin("b", wrong)
        wrong[0].append("net")
        self.assertEqual((caught.exception.stack, guards, names), (([["io"], "drop"],), [G, H], ["io", "net"]))

    def test_two_objects_share_no_state(self):
        one, other = Scopes(K), Scopes(K)
        self.assertEqual([one.begin("a", G), one.begin("b"), other.begin("c", H)], [0, 1, 0])
        self.assertEqual([one.raise_in(0, "net", "io"), other.raise_in(0, "disk")], [[1, 2], [1]])
        one.close(0)
        self.assertEqual((other.kind_of(1), other.place_of(1), other.open_scopes), ("disk", ("waiting", 0, (0,)), [0]))
        self.assertEqual((one.kind_of(1), one.outcomes), ("net", [(0, ("a", (("io", 2),)))]))

    def test_a_call_that_raises_changes_nothing(self):
        s = Scopes(K)
        s.begin("a", H), s.begin("b", G, parent=0), s.begin("c")
        s.raise_in(0, "io", "net"), s.raise_in(1, "net"), s.close(2)
        before = seen(s, 3)
        for call in (lambda: s.begin("", G), lambda: s.begin("m", 5), lambda: s.begin("m", G, parent=7), lambda: s.begin("m", parent=2),
                     lambda: s.set_stack(0, G, 5), lambda: s.set_stack(2), lambda: s.set_stack(None, G),
                     lambda: s.raise_in(0, "io", "cpu"), lambda: s.raise_in(2, "io"), lambda: s.raise_in(9, "io"),
                     lambda: s.close(2), lambda: s.close(True), lambda: s.collected(2), lambda: s.place_of(0), lambda: s.destiny(4),
                     lambda: s.kind_of("1")):
            with self.assertRaises((NoMessage, NoStack, NoScope, Closed, NoKind, NoError)):
                call()
            self.assertEqual(seen(s, 3), before)
        self.told(NoError, "number", 4, s.kind_of, 4)
        self.assertEqual([s.begin("d", parent=1), s.raise_in(3, "io")], [3, [4]])

    def test_asking_changes_nothing(self):
        s = Scopes(K)
        s.begin("a", H), s.begin("b", G, parent=0), s.raise_in(1, "net", "io"), s.raise_in(0, "disk")
        self.assertEqual(seen(s, 3), seen(s, 3))

    def test_outcomes_may_be_passed_again(self):
        s = Scopes(K)
        s.begin("a", H, P), s.raise_in(0, "net", "io")
        outcome = s.close(0)
        self.assertEqual(handled(K, (), ("up", (outcome, outcome))), ("up", (outcome, outcome)))


class TestHistories(Case):
    """All that can be asked after each call of many histories, worked out a second way."""

    def test_made_histories(self):
        for n, bases in enumerate(FAMILIES):
            for seed in range(16):
                self.history(Maker(1000 * n + seed, bases), bases, 25)

    def history(self, maker, bases, calls):
        s, expected = Scopes(maker.kinds), ReckonedScopes(bases)
        for _ in range(calls):
            call = maker.call(expected)
            self.assertEqual(done(s, call), done(expected, call), call)
            self.compare(s, expected)

    def compare(self, s, expected):
        self.assertEqual((s.outcomes, s.open_scopes, len(s)), (expected.outcomes, expected.open_scopes, len(expected)))
        for scope in expected.open_scopes:
            self.assertEqual(s.collected(scope), expected.collected(scope))
        places, destinies = expected.places(), expected.destinies()
        self.assertEqual(many_errors(s), len(places))
        for number in places:
            self.assertEqual([s.place_of(number)], places[number])
            self.assertEqual(s.destiny(number), destinies[number])
            self.assertEqual(s.kind_of(number), expected.kind_of(number))


if __name__ == "__main__":
    unittest.main()
