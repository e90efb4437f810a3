import itertools
import unittest

from errorplaces.errors import NoBases, NoKind, NoName, NoRows, TooMany
from errorplaces.kinds import Kinds
from samples import K, UNLIKE, nested

SEVEN = {"a": (), "b": ("a",), "c": ["b"], "d": (), "e": ["d", "a"], "f": ("c", "e"), "g": ()}
NOT_NAMES = ["", "abcdefghi", "Net", "nEt", "neT", "n t", " net", "net ", "n1", "n_t", "n-t", "*", "`", "{",
             "a" * 4000]
NAMES = ["a", "z", "az", "net", "abcdefgh", "zzzzzzzz", "self", "cls", "rows", "bases", "name"]


class TestKinds(unittest.TestCase):

    def raised(self, error, field, call, *arguments, **named):
        with self.assertRaises(error) as caught:
            call(*arguments, **named)
        self.assertIs(type(caught.exception), error)
        return getattr(caught.exception, field)

    def test_the_examples_of_the_document(self):
        self.assertEqual([K.below("net"), K.above("both")], [["both", "net"], ["both", "disk", "io", "net"]])
        self.assertEqual(self.raised(NoBases, "bases", Kinds, net=("io",), io=()), ("io",))
        self.assertEqual(repr(K), "Kinds(io, net, disk, both)")

    def test_a_table_without_kinds(self):
        for made in (Kinds(), Kinds.of([]), Kinds.of(())):
            self.assertEqual((len(made), made.order, repr(made)), (0, [], "Kinds()"))
            self.assertNotIn("io", made)
            self.assertEqual(made, Kinds())
            self.assertEqual(self.raised(NoKind, "name", made.below, "io"), "io")

    def test_a_table_with_one_kind(self):
        made = Kinds(io=())
        self.assertEqual((len(made), made.order, repr(made)), (1, ["io"], "Kinds(io)"))
        self.assertEqual((made.below("io"), made.above("io")), (["io"], ["io"]))

    def test_the_limit_is_seven(self):
        self.assertEqual((Kinds.LIMIT, K.LIMIT, type(Kinds.LIMIT)), (7, 7, int))
        made = Kinds(**SEVEN)
        self.assertEqual((len(made), made.order, repr(made)), (7, list("abcdefg"), "Kinds(a, b, c, d, e, f, g)"))
        self.assertEqual(len(Kinds.of(list(SEVEN.items()))), 7)

    def test_an_eighth_kind_is_too_many(self):
        eight = dict(SEVEN, h=())
        self.assertEqual(self.raised(TooMany, "limit", Kinds, **eight), 7)
        self.assertEqual(self.raised(TooMany, "limit", Kinds.of, list(eight.items())), 7)
        self.assertEqual(self.raised(TooMany, "limit", Kinds.of, tuple(dict(eight, i=()).items())), 7)

    def test_under(self):
        made = Kinds(**SEVEN)
        above = {"a": "a", "b": "ab", "c": "abc", "d": "d", "e": "ade", "f": "abcdef", "g": "g"}
        for name in SEVEN:
            self.assertEqual(made.above(name), list(above[name]))
            self.assertEqual(made.below(name), [kind for kind in sorted(SEVEN) if name in above[kind]])

    def test_below_and_above_are_ascending_not_in_the_order_of_the_table(self):
        made = Kinds(z=(), m=("z",), a=("m",), q=("z",))
        self.assertEqual(made.order, ["z", "m", "a", "q"])
        self.assertEqual(made.below("z"), ["a", "m", "q", "z"])
        self.assertEqual(made.above("a"), ["a", "m", "z"])

    def test_bases_may_be_tuples_or_lists_in_any_order(self):
        same = [Kinds(**dict(a=(), b=(), c=(), d=kind(order)))
                for kind in (tuple, list) for order in itertools.permutations("abc")]
        for one, other in itertools.product(same, same):
            self.assertTrue(one == other)
            self.assertFalse(one != other)
            self.assertEqual(one.above("d"), ["a", "b", "c", "d"])

    def test_equality(self):
        tables = [
            Kinds(), Kinds(a=()), Kinds(b=()), Kinds(a=(), b=()), Kinds(b=(), a=()), Kinds(a=(), b=("a",)),
            Kinds(b=(), a=("b",)), Kinds(a=(), b=(), c=()), Kinds(a=(), b=("a",), c=("b",)),
            Kinds(a=(), b=("a",), c=("a", "b")), Kinds(a=(), b=("a",), c=("a",)),
        ]
        for i, j in itertools.product(range(len(tables)), repeat=2):
            self.assertEqual(tables[i] == tables[j], i == j)
            self.assertEqual(tables[i] != tables[j], i != j)

    def test_a_table_is_unequal_to_anything_else(self):
        for thing in [*UNLIKE, Kinds, "Kinds()", ["io", "net", "disk", "both"], object()]:
            for made in (Kinds(), K):
                self.assertFalse(made == thing)
                self.assertFalse(thing == made)
                self.assertTrue(made != thing)

    def test_in_takes_any_value(self):
        for name in K.order:
            self.assertIs(name in K, True)
        for thing in UNLIKE:
            self.assertIs(thing in K, False)
        for thing in ("ne", "nett", "io, net", "ionet", "both ", "i", "o", "order", ("io",), ["io"]):
            self.assertIs(thing in K, False)

    def test_below_and_above_want_the_name_of_a_kind(self):
        for thing in [*UNLIKE, "a", "ne", "NET", ["io"], ("io",)]:
            self.assertEqual(self.raised(NoKind, "name", K.below, thing), thing)
            self.assertEqual(self.raised(NoKind, "name", K.above, name=thing), thing)

    def test_names(self):
        for name in NAMES:
            if name != "self":
                self.assertEqual(Kinds(**{name: ()}).order, [name])
            self.assertEqual(Kinds.of([(name, ())]).order, [name])
        for name in NOT_NAMES:
            self.assertEqual(self.raised(NoName, "name", Kinds, **{name: ()}), name)
            self.assertEqual(self.raised(NoName, "name", Kinds.of, [(name, ())]), name)

    def test_the_first_keyword_that_is_no_name_is_told(self):
        self.assertEqual(self.raised(NoName, "name", Kinds, **{"io": (), "B": (), "C": ()}), "B")
        self.assertEqual(self.raised(NoName, "name", Kinds, **{"": None, "C": ()}), "")

    def test_bases_that_are_none(self):
        wrong = [thing for thing in UNLIKE if thing not in ((), [])]
        wrong += ["io", ("io", "io"), ["io", "net", "io"], ("ab",), ["ab"], ("io", "ab"), ("io", None), ["io", ["net"]],
                  [("io",)], ("later",), ["io", "later"], ("io", True), ("io", 1), ("", "io")]
        for thing in wrong:
            kinds = dict(io=(), web=(), ab=thing, later=())
            expected = thing
            self.assertEqual(self.raised(NoBases, "bases", Kinds, **kinds), expected)
            self.assertEqual(self.raised(NoBases, "bases", Kinds.of, list(kinds.items())), expected)

    def test_the_first_bases_that_are_none_are_told(self):
        self.assertEqual(self.raised(NoBases, "bases", Kinds, a=(), b=["c"], c=None), ["c"])
        self.assertEqual(self.raised(NoBases, "bases", Kinds, a=5, b=["c"]), 5)
        self.assertEqual(self.raised(NoBases, "bases", Kinds, a=("a",)), ("a",))

    def test_the_type_of_wrong_bases_is_kept(self):
        for thing in (["x"], ("x",), [("x", ["y"])], True, 1):
            told = self.raised(NoBases, "bases", Kinds, a=thing)
            self.assertEqual((told, type(told)), (thing, type(thing)))

    def test_the_order_of_the_errors_of_a_table(self):
        eight = {"": None, **SEVEN}
        self.assertEqual(self.raised(TooMany, "limit", Kinds, **eight), 7)
        self.assertEqual(self.raised(NoName, "name", Kinds, a=None, b=("c",), C=()), "C")
        self.assertEqual(self.raised(NoName, "name", Kinds.of, [("a", None), ("b", 1), (None, ())]), None)

    def test_rows_that_are_none(self):
        wrong = [thing for thing in UNLIKE if thing not in ((), []) and not self.are_pairs(thing)]
        wrong += [[("io", ()), ["net", ()]], [("io", ()), ("net",)], [("io", (), ())], [["io", ()]], ("io", ()),
                  [("io", ()), None], [("io", ()), "ab"], ["ab"], "ab",
                  [("io", ()), ("net", ()), 5], nested([], 50, lambda inner: [inner])]
        for thing in wrong:
            self.assertEqual(self.raised(NoRows, "value", Kinds.of, thing), thing)
            self.assertEqual(self.raised(NoRows, "value", Kinds.of, rows=thing), thing)

    def are_pairs(self, thing):
        return isinstance(thing, (list, tuple)) and all(isinstance(row, tuple) and len(row) == 2 for row in thing)

    def test_the_order_of_the_errors_of_rows(self):
        eight = [(name, None) for name in ("", "A", "B", "C", "D", "E", "F", "G")]
        self.assertEqual(self.raised(NoRows, "value", Kinds.of, [*eight, 5]), [*eight, 5])
        self.assertEqual(self.raised(TooMany, "limit", Kinds.of, eight), 7)
        self.assertEqual(self.raised(NoName, "name", Kinds.of, eight[:7]), "")
        self.assertEqual(self.raised(NoRows, "value", Kinds.of, [(None, 1), [2]]), [(None, 1), [2]])

    def test_a_name_that_stands_before_is_no_name(self):
        self.assertEqual(self.raised(NoName, "name", Kinds.of, [("io", ()), ("net", None), ("io", ())]), "io")
        self.assertEqual(self.raised(NoName, "name", Kinds.of, [("io", ()), ("io", ()), ("B", ())]), "io")

    def test_names_of_rows_may_be_any_value(self):
        for thing in UNLIKE:
            if thing != "cpu":
                self.assertEqual(self.raised(NoName, "name", Kinds.of, [("io", ()), (thing, ())]), thing)

    def test_rows_may_be_lists_or_tuples(self):
        rows = [("io", ()), ("net", ["io"]), ("disk", ("io",)), ("both", ["disk", "net"])]
        self.assertEqual(Kinds.of(rows), K)
        self.assertEqual(Kinds.of(tuple(rows)), K)
        self.assertEqual(Kinds.of(rows=rows), K)
        self.assertEqual(K.of(rows), K)
        self.assertIs(type(Kinds.of(rows)), Kinds)

    def test_a_kind_may_be_called_self_in_rows(self):
        made = Kinds.of([("self", ()), ("rows", ["self"])])
        self.assertEqual((made.order, made.above("rows")), (["self", "rows"], ["rows", "self"]))

    def test_tables_copy_their_arguments(self):
        bases = ["io"]
        row = ("net", bases)
        rows = [("io", ()), row]
        by_name, by_rows = Kinds(io=(), net=bases), Kinds.of(rows)
        bases.clear()
        rows.pop()
        for made in (by_name, by_rows):
            self.assertEqual((made.order, made.above("net")), (["io", "net"], ["io", "net"]))
            self.assertEqual(made, Kinds(io=(), net=["io"]))

    def test_arguments_are_unchanged(self):
        bases = ["b", "a"]
        rows = [("a", []), ("b", []), ("c", bases)]
        Kinds(a=[], b=[], c=bases)
        Kinds.of(rows)
        self.assertEqual((rows, bases), ([("a", []), ("b", []), ("c", ["b", "a"])], ["b", "a"]))

    def test_returned_lists_are_new_ones(self):
        made = Kinds(io=(), net=("io",))
        for _ in range(2):
            for found in (made.order, made.below("io"), made.above("net")):
                self.assertIs(type(found), list)
                self.assertEqual(found, ["io", "net"])
                found.reverse()
                found.append("x")
        self.assertEqual(made, Kinds(io=(), net=("io",)))
        self.assertEqual((repr(made), len(made), "x" in made), ("Kinds(io, net)", 2, False))

    def test_a_call_that_raises_changes_nothing(self):
        made = Kinds(io=(), net=("io",))
        rows = [("a", ["b"]), ("b", [])]
        self.raised(NoKind, "name", made.below, "cpu")
        self.raised(NoKind, "name", made.above, "cpu")
        self.raised(NoBases, "bases", made.of, rows)
        self.assertEqual(rows, [("a", ["b"]), ("b", [])])
        self.assertEqual((made, made.below("io")), (Kinds(io=(), net=("io",)), ["io", "net"]))

    def test_two_tables_share_no_state(self):
        one, other = Kinds(io=()), Kinds(io=(), net=())
        self.assertEqual((one.order, other.order, len(one)), (["io"], ["io", "net"], 1))


if __name__ == "__main__":
    unittest.main()
