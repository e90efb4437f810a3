import itertools
import unittest

from errorplaces.errors import Closed, NoError, NoKind, NoMessage, NoScope, NoStack, TooMany
from errorplaces.kinds import Kinds
from errorplaces.records import RecordedScopes, Recorder
from errorplaces.running import handled
from errorplaces.scopes import Scopes
from cases import Case
from made import FAMILIES, FIVE, Maker, done
from reckoning import ReckonedScopes
from samples import G, H, K, NO_STACKS, P, T, UNLIKE, nested

NO_SCOPES = [thing for thing in UNLIKE if isinstance(thing, bool) or not isinstance(thing, int) or not 0 <= thing <= 2]
NO_SCOPES += [3, 60, "0", (0,)]


def as_key(thing):
    """Whether a dict can have it as a key."""
    if isinstance(thing, list):
        return False
    return all(as_key(item) for item in thing) if isinstance(thing, tuple) else True


def seen(scopes):
    """All that can be asked."""
    told = []
    for number in itertools.count(1):
        try:
            told.append((scopes.kind_of(number), scopes.place_of(number), scopes.destiny(number)))
        except NoError:
            break
    return told, scopes.outcomes, scopes.open_scopes, [scopes.collected(n) for n in scopes.open_scopes], len(scopes)


def call_kept(call):
    """How a call of a Maker is kept."""
    word, arguments, named = call
    first, *rest = arguments
    if word == "begin":
        return (word, (first, tuple(rest), named["parent"]))
    return (word, (first,)) if word == "close" else (word, (first, tuple(rest)))


def replayed(kinds, calls, stacks):
    """Scopes that have got these kept calls, with other stacks, and the calls that they got."""
    scopes, got = Scopes(kinds), []
    opened = itertools.count()
    for word, arguments in calls:
        if word == "begin":
            message, stack, parent = arguments
            stack = stacks.get(next(opened), stack)
            scopes.begin(message, *stack, parent=parent)
            got.append((word, (message, stack, parent)))
        elif word != "set_stack" or arguments[0] not in stacks:
            getattr(scopes, word)(arguments[0], *[item for items in arguments[1:] for item in items])
            got.append((word, arguments))
    return scopes, got


def day():
    """Recorded scopes with three scopes, one of them closed."""
    s = RecordedScopes(K)
    s.begin("day", H), s.begin("job", G, parent=0), s.begin("other")
    s.raise_in(1, "net", "io"), s.raise_in(0, "disk"), s.set_stack(0, P), s.close(1)
    return s


DAY_CALLS = [
    ("begin", ("day", (H,), None)), ("begin", ("job", (G,), 0)), ("begin", ("other", (), None)),
    ("raise_in", (1, ("net", "io"))), ("raise_in", (0, ("disk",))), ("set_stack", (0, (P,))), ("close", (1,)),
]


class TestRecorder(Case):

    def test_nothing_yet(self):
        self.assertEqual(Recorder().calls, [])
        self.assertIs(type(Recorder().calls), list)

    def test_calls_in_order(self):
        r = Recorder()
        self.assertIsNone(r.keep("begin", "day", (G,), None))
        r.keep("close", 0), r.keep("", []), r.keep("alone"), r.keep("close", 0)
        self.assertEqual(r.calls, [("begin", ("day", (G,), None)), ("close", (0,)), ("", ([],)), ("alone", ()), ("close", (0,))])
        for word, arguments in r.calls:
            self.assertEqual((type(word), type(arguments)), (str, tuple))

    def test_any_values(self):
        r = Recorder()
        for thing in UNLIKE:
            r.keep("one", thing)
            r.keep("two", thing, [thing], (thing,))
        expected = []
        for thing in UNLIKE:
            expected += [("one", (thing,)), ("two", (thing, [thing], (thing,)))]
        self.assertEqual(r.calls, expected)
        for (_, arguments), (_, others) in zip(r.calls, expected):
            self.assertEqual([type(thing) for thing in arguments], [type(thing) for thing in others])

    def test_true_stays_true(self):
        r = Recorder()
        r.keep("x", True, 1, False, 0, [True, (False,)])
        self.assertEqual(repr(r.calls), "[('x', (True, 1, False, 0, [True, (False,)]))]")

    def test_arguments_are_copied(self):
        r = Recorder()
        inner = ["io"]
        value = [1, (inner, 2)]
        r.keep("x", value, inner)
        inner.append("net")
        value.append(3)
        self.assertEqual(r.calls, [("x", ([1, (["io"], 2)], ["io"]))])

    def test_arguments_are_unchanged(self):
        value = [1, (["io"], 2)]
        r = Recorder()
        r.keep("x", value)
        r.calls[0][1][0].append(5)
        self.assertEqual(value, [1, (["io"], 2)])

    def test_what_is_returned_is_new_at_every_level(self):
        r = Recorder()
        r.keep("x", [["a"], (["b"],)], []), r.keep("y")
        found = r.calls
        found[0][1][0][0].append("c")
        found[0][1][0][1][0].append("c")
        found[0][1][0].append("c")
        found[0][1][1].append("c")
        found.clear()
        self.assertEqual(r.calls, [("x", ([["a"], (["b"],)], [])), ("y", ())])

    def test_one_list_twice_is_two_lists(self):
        r, inner = Recorder(), ["a"]
        r.keep("x", inner, inner)
        one, other = r.calls[0][1]
        one.append("b")
        self.assertEqual((one, other), (["a", "b"], ["a"]))

    def test_two_recorders_share_nothing(self):
        one, other = Recorder(), Recorder()
        one.keep("x", 1)
        self.assertEqual((one.calls, other.calls), ([("x", (1,))], []))
        other.keep("y")
        self.assertEqual((one.calls, other.calls), ([("x", (1,))], [("y", ())]))

    def test_outcomes_250_deep(self):
        r = Recorder()
        tree = nested(("io", 1), 250, lambda inner: ("m", (inner,)))
        r.keep("x", tree, [tree])
        self.assertEqual(r.calls, [("x", (tree, [tree]))])

    def test_the_word_by_name(self):
        r = Recorder()
        r.keep(word="x")
        self.assertEqual(r.calls, [("x", ())])


class TestRecordedScopes(Case):

    def test_a_subclass_of_both(self):
        s = RecordedScopes(K)
        self.assertTrue(issubclass(RecordedScopes, Recorder) and issubclass(RecordedScopes, Scopes))
        self.assertTrue(isinstance(s, Recorder) and isinstance(s, Scopes))
        self.assertEqual((s.calls, len(s), RecordedScopes.LIMIT, s.LIMIT), ([], 0, 60, 60))

    def test_the_calls(self):
        s = day()
        self.assertEqual(s.calls, DAY_CALLS)
        for word, arguments in s.calls:
            self.assertEqual((type(word), type(arguments)), (str, tuple))

    def test_it_answers_as_scopes_do(self):
        s = RecordedScopes(K)
        self.assertEqual([s.begin("day", H), s.begin("job", G, parent=0), s.raise_in(1, "net", "io"), s.raise_in(0, "disk")],
                         [0, 1, [1, 2], [3]])
        self.assertEqual([s.destiny(1), s.destiny(3), s.close(1)],
                         [("dropped", 1, (0, 0)), ("out", 0), ("job", (("io", 2),))])
        self.assertIsNone(s.set_stack(0, H))
        self.assertEqual(s.close(0), ("", (("note", (("day", (("job", (("io", 2),)), ("disk", 3))), ("net", 4))),)))
        self.assertEqual([s.place_of(2), s.place_of(4), s.kind_of(4)], [("out", 0, (0, 0, 0, 0)), ("out", 0, (0, 1)), "net"])

    def test_arguments_by_name(self):
        s = RecordedScopes(kinds=K)
        s.begin(message="day"), s.begin(message="job", parent=0), s.set_stack(scope=1), s.raise_in(scope=1), s.close(scope=1)
        s.begin("job", G, parent=None)
        self.assertEqual(s.calls, [("begin", ("day", (), None)), ("begin", ("job", (), 0)), ("set_stack", (1, ())),
                                   ("raise_in", (1, ())), ("close", (1,)), ("begin", ("job", (G,), None))])

    def test_closing_a_scope_is_one_call(self):
        s = RecordedScopes(K)
        s.begin("a"), s.begin("b", parent=0), s.begin("c", parent=1), s.raise_in(2, "io"), s.close(0)
        self.assertEqual([word for word, _ in s.calls], ["begin", "begin", "begin", "raise_in", "close"])
        self.assertEqual(s.open_scopes, [])

    def test_asking_is_not_kept(self):
        s = day()
        seen(s)
        s.collected(0), s.replayed(), s.replayed(stacks={0: ()})
        self.assertEqual(s.calls, DAY_CALLS)

    def test_refused_calls_are_not_kept(self):
        s = day()
        before = seen(s)
        for error, call in [
                (NoMessage, lambda: s.begin("")), (NoMessage, lambda: s.begin(None, G)), (NoStack, lambda: s.begin("day", 5)),
                (NoStack, lambda: s.begin("day", G, [])), (NoScope, lambda: s.begin("day", G, parent=3)),
                (Closed, lambda: s.begin("day", G, parent=1)), (NoScope, lambda: s.set_stack(True, G)), (Closed, lambda: s.set_stack(1, G)),
                (NoStack, lambda: s.set_stack(0, G, 5)), (NoScope, lambda: s.raise_in(9, "io")), (Closed, lambda: s.raise_in(1, "io")),
                (NoKind, lambda: s.raise_in(0, "io", "cpu")), (NoScope, lambda: s.close(None)), (Closed, lambda: s.close(1)),
                (NoScope, lambda: s.replayed(stacks={7: ()})), (NoStack, lambda: s.replayed(stacks={0: 5}))]:
            with self.assertRaises(error):
                call()
            self.assertEqual((s.calls, seen(s)), (DAY_CALLS, before))
        again = s.replayed()
        self.assertEqual((again.calls, seen(again)), (DAY_CALLS, before))
        s.raise_in(0, "io")
        self.assertEqual(s.calls, [*DAY_CALLS, ("raise_in", (0, ("io",)))])

    def test_sixty_scopes_and_one_more(self):
        s = RecordedScopes(K)
        for _ in range(60):
            s.begin("day")
        self.told(TooMany, "limit", 60, s.begin, "day")
        self.assertEqual(len(s.calls), 60)
        self.assertEqual(len(s.replayed()), 60)
        self.told(TooMany, "limit", 60, s.replayed().begin, "day")

    def test_the_wrong_values_are_told(self):
        s = day()
        for thing in UNLIKE:
            if isinstance(thing, bool) or thing not in (0, 1, 2):
                for call in (s.set_stack, s.raise_in, s.close):
                    self.told(NoScope, "scope", thing, call, thing)
        for guard in [thing for thing in NO_STACKS if thing not in (G, H, P)]:
            self.told(NoStack, "stack", (guard,), s.begin, "day", guard)
        self.assertEqual(s.calls, DAY_CALLS)

    def test_what_is_returned_is_new(self):
        s = day()
        s.calls.clear()
        s.calls.append("x")
        self.assertEqual(s.calls, DAY_CALLS)

    def test_arguments_are_unchanged(self):
        s = RecordedScopes(K)
        guards, names = [G, H], ["io", "net"]
        s.begin("a", *guards), s.raise_in(0, *names), s.set_stack(0, *guards)
        guards.append(P), names.append("disk")
        self.assertEqual(s.calls, [("begin", ("a", (G, H), None)), ("raise_in", (0, ("io", "net"))), ("set_stack", (0, (G, H)))])

    def test_two_objects_share_nothing(self):
        one, other = RecordedScopes(K), RecordedScopes(K)
        one.begin("a", G), one.raise_in(0, "io")
        self.assertEqual((other.calls, seen(other)), ([], ([], [], [], [], 0)))
        self.assertFalse(one == other)
        self.assertTrue(one == one)

    def test_made_histories(self):
        for n, bases in enumerate([*FAMILIES, FIVE]):
            for seed in range(8):
                maker = Maker(2000 * n + seed, bases)
                s, expected, kept = RecordedScopes(maker.kinds), ReckonedScopes(bases), []
                for _ in range(30):
                    call = maker.call(expected)
                    self.assertEqual(done(s, call), done(expected, call))
                    kept.append(call_kept(call))
                self.assertEqual(s.calls, kept)
                self.assertEqual((s.outcomes, s.open_scopes), (expected.outcomes, expected.open_scopes))


class TestReplayed(Case):

    def test_with_no_stacks(self):
        s = day()
        for again in (s.replayed(), s.replayed(stacks=None), s.replayed(stacks={}), s.replayed().replayed(stacks={}).replayed()):
            self.assertIs(type(again), RecordedScopes)
            self.assertIsNot(again, s)
            self.assertEqual((again.calls, seen(again)), (DAY_CALLS, seen(s)))

    def test_of_nothing(self):
        again = RecordedScopes(K).replayed(stacks={})
        self.assertEqual((again.calls, seen(again)), ([], ([], [], [], [], 0)))
        self.told(NoScope, "scope", 0, RecordedScopes(K).replayed, stacks={0: ()})

    def test_stacks_are_keyword_only(self):
        with self.assertRaises(TypeError):
            day().replayed({})

    def test_a_scope_is_opened_with_the_other_stack(self):
        again = day().replayed(stacks={1: ()})
        self.assertEqual(again.calls, [DAY_CALLS[0], ("begin", ("job", (), 0)), *DAY_CALLS[2:]])
        self.assertEqual(again.collected(0), [("job", (("net", 1), ("io", 2))), ("disk", 3)])
        self.assertEqual(again.place_of(1), ("waiting", 0, (0, 0)))

    def test_calls_of_set_stack_for_it_are_left_out(self):
        again = day().replayed(stacks={0: (G,)})
        self.assertEqual(again.calls, [("begin", ("day", (G,), None)), *DAY_CALLS[1:5], DAY_CALLS[6]])
        self.assertEqual((again.destiny(2), again.close(0)), (("out", 0), handled(K, (G,), ("day", (("job", (("io", 2),)), ("disk", 3))))))

    def test_calls_of_set_stack_for_others_stay(self):
        s = RecordedScopes(K)
        s.begin("a"), s.begin("b"), s.set_stack(0, G), s.set_stack(1, G), s.set_stack(1, H), s.set_stack(0)
        self.assertEqual(s.replayed(stacks={1: (P, P)}).calls,
                         [("begin", ("a", (), None)), ("begin", ("b", (P, P), None)), ("set_stack", (0, (G,))), ("set_stack", (0, ()))])

    def test_stacks_for_all_scopes(self):
        again = day().replayed(stacks={2: (H,), 0: (), 1: (G, G)})
        self.assertEqual(again.calls, [("begin", ("day", (), None)), ("begin", ("job", (G, G), 0)), ("begin", ("other", (H,), None)),
                                       *DAY_CALLS[3:5], DAY_CALLS[6]])

    def test_the_same_stack_as_before(self):
        again = day().replayed(stacks={0: (H,)})
        self.assertEqual(again.calls, [*DAY_CALLS[:5], DAY_CALLS[6]])

    def test_numbers_of_new_errors_are_other_ones(self):
        s = RecordedScopes(K)
        s.begin("a", H), s.raise_in(0, "io"), s.close(0), s.begin("b"), s.raise_in(1, "disk")
        self.assertEqual((s.kind_of(2), s.kind_of(3)), ("net", "disk"))
        again = s.replayed(stacks={0: ()})
        self.assertEqual((again.kind_of(2), again.outcomes), ("disk", [(0, ("a", (("io", 1),)))]))
        self.told(NoError, "number", 3, again.kind_of, 3)
        self.assertEqual(again.calls, [("begin", ("a", (), None)), *s.calls[1:]])

    def test_replays_of_replays(self):
        s = day()
        again = s.replayed(stacks={0: (G,)}).replayed(stacks={1: ()})
        self.assertEqual(again.calls, [("begin", ("day", (G,), None)), ("begin", ("job", (), 0)), *DAY_CALLS[2:5], DAY_CALLS[6]])
        self.assertEqual(seen(again), seen(s.replayed(stacks={0: (G,), 1: ()})))
        again.set_stack(0, H), again.close(2)
        more = again.replayed(stacks={2: (P,)})
        self.assertEqual(more.calls, [*again.calls[:2], ("begin", ("other", (P,), None)), *again.calls[3:]])
        self.assertEqual(more.calls[-2:], [("set_stack", (0, (H,))), ("close", (2,))])

    def test_the_two_objects_share_nothing(self):
        s = day()
        again = s.replayed()
        again.raise_in(0, "net"), again.close(0)
        self.assertEqual((s.calls, s.open_scopes), (DAY_CALLS, [0, 2]))
        before = again.calls, seen(again)
        s.begin("more"), s.close(2)
        self.assertEqual((again.calls, seen(again)), before)

    def test_the_dict_is_unchanged_and_copied(self):
        s = day()
        stacks = {0: (G,), 1: ()}
        again = s.replayed(stacks=stacks)
        self.assertEqual(stacks, {0: (G,), 1: ()})
        before = again.calls, seen(again)
        stacks.clear()
        self.assertEqual((again.calls, seen(again)), before)

    def test_keys_that_are_none(self):
        s = day()
        for key in [thing for thing in NO_SCOPES if as_key(thing)]:
            self.told(NoScope, "scope", key, s.replayed, stacks={key: ()})
            self.told(NoScope, "scope", key, s.replayed, stacks={2: (), key: ()})
            self.told(NoScope, "scope", key, s.replayed, stacks={2: 5, key: None, 99: ()})
        self.assertEqual(s.calls, DAY_CALLS)

    def test_stacks_that_are_none(self):
        s = day()
        for stack in NO_STACKS:
            self.told(NoStack, "stack", stack, s.replayed, stacks={0: stack})
            self.told(NoStack, "stack", stack, s.replayed, stacks={2: (), 1: stack, 0: (5,)})
        self.told(NoStack, "stack", (G,), self.scopes_of(Kinds(net=())).replayed, stacks={0: (G,)})
        self.assertEqual(s.calls, DAY_CALLS)

    def scopes_of(self, kinds):
        s = RecordedScopes(kinds)
        s.begin("a")
        return s

    def test_the_order_of_the_errors(self):
        s = day()
        self.told(NoScope, "scope", 9, s.replayed, stacks={0: 5, 9: 6})
        self.told(NoScope, "scope", 9, s.replayed, stacks={9: 6, 8: 7})
        self.told(NoScope, "scope", True, s.replayed, stacks={2: (), True: (), 8: ()})
        self.told(NoStack, "stack", [], s.replayed, stacks={2: (), 1: [], 0: 5})

    def test_closed_scopes_have_numbers_too(self):
        self.assertEqual(day().replayed(stacks={1: (H,)}).collected(0)[0],
                         ("", (("note", (("job", (("net", 1), ("io", 2))), ("net", 4))),)))

    def test_made_histories_with_other_stacks(self):
        for n, bases in enumerate([*FAMILIES, FIVE]):
            for seed in range(8):
                maker = Maker(3000 * n + seed, bases)
                s = RecordedScopes(maker.kinds)
                for _ in range(30):
                    done(s, maker.call(s))
                opened = sum(word == "begin" for word, _ in s.calls)
                for share in (0, 0.5, 1):
                    stacks = {k: maker.stack() for k in range(opened) if maker.dice.random() < share}
                    again = s.replayed(stacks=stacks)
                    expected, calls = replayed(maker.kinds, s.calls, stacks)
                    self.assertEqual((again.calls, seen(again)), (calls, seen(expected)))
                    self.assertEqual(seen(again.replayed()), seen(again))

    def test_an_outcome_of_a_replay_is_what_handled_returns(self):
        s = RecordedScopes(K)
        s.begin("m"), s.raise_in(0, "net", "io", "disk"), s.close(0)
        for stack in ((G,), (H, P), (G, H, P)):
            again = s.replayed(stacks={0: stack})
            self.assertEqual(again.outcomes, [(0, handled(K, stack, ("m", (("net", 1), ("io", 2), ("disk", 3))), first=4))])


if __name__ == "__main__":
    unittest.main()
