import itertools
import random
import unittest

import grammar
from errorplaces.errors import NoText
from errorplaces.handlers import is_form, is_stack
from errorplaces.kinds import Kinds
from errorplaces.running import handled
from errorplaces.scopes import Scopes
from errorplaces.tables import Table
from errorplaces.texts import read_stack, read_tree, show_form, show_stack, show_template, show_tree
from errorplaces.trees import is_tree
from cases import Case
from made import ACTION_NAMES, ACTIONS, EDGES, FAMILIES, FORMS, ONE_CLAUSE, Maker, spoilt
from samples import G, H, K, P, T, UNLIKE, nested

LEAF_TEXTS = [(("io", 0), "io:0"), (("net", 1), "net:1"), (("both", 10), "both:10"), (("disk", 10 ** 59), "disk:1" + "0" * 59)]
TREE_TEXTS = [
    *LEAF_TEXTS, (T, "all(net:1,sub(disk:2,io:3))"), (("", (("io", 1),)), "(io:1)"), (("m", (("io", 1),)), "m(io:1)"),
    (("", (("", (("", (("io", 1),)),)),)), "(((io:1)))"), (("io", (("io", 1), ("io", 1))), "io(io:1,io:1)"),
    (("abcdefgh", (("", (("io", 1),)), ("net", 2), ("", (("io", 3),)))), "abcdefgh((io:1),net:2,(io:3))"),
]
STACK_TEXTS = [
    ((), ""), (((),), "-"), (((), ()), "- | -"), ((G, H, P), "net drop ; disk back | io raise note(*,net) | io pass ( net raise disk )"),
    (((), G, ()), "- | net drop ; disk back | -"), ((((("io", "net", "io"), "back"),),), "io,net,io back"),
    ((((("io",), ("keep", ("net",))),),), "io keep net"), ((((("io",), ("keep", ("net", "disk", "net"))),),), "io keep net,disk,net"),
    ((((("io",), ("raise", "*")),),), "io raise *"), ((((("io",), ("raise", "net")),),), "io raise net"),
    ((((("io",), ("raise", ("", ("*",)))),),), "io raise (*)"), ((((("io",), ("pass", ())),),), "io pass ( - )"),
    ((((("io",), ("raise", ("a", (("", ("net", "*")), "io")))), (("net", "io"), "drop")),), "io raise a((net,*),io) ; net,io drop"),
    ((((("io",), ("pass", ((("net",), ("pass", ())), (("io",), ("pass", G))))), (("io",), "drop")), ()),
     "io pass ( net pass ( - ) ; io pass ( net drop ; disk back ) ) ; io drop | -"),
]
NO_TREE_TEXTS = [
    "", " ", "io", "io:", ":1", "1", ":", "io:1:", "io:1:1", "io::1", "io:01", "io:00", "io:-1", "io:+1", "io:-0", "io:1.0", "io:1e3", "io:0x1",
    "io:1_0", "io:a", "io: 1", "io :1", " io:1", "io:1 ", "io:1  ", "io:1 io:2", "cpu:1", "IO:1", "Io:1", "i-o:1", "i1:1", "io1", "io:1,", ",io:1",
    "io:1,io:2", "()", "m()", "(())", "m(())", "(", ")", "m(", "m)", "m(io:1", "mio:1)", "m(io:1))", "m((io:1)", ")m(io:1", "m(io:1)m", "m(io:1)io:1",
    "m(io:1)(io:1)", "m(io:1)()", "m(io:1,)", "m(,io:1)", "m(,)", "m(io:1,,io:2)", "m(io:1 ,io:2)", "m(io:1, io:2)", "m( io:1)", "m(io:1 )", "m (io:1)",
    "m(io)", "m(*)", "*", "*:1", "m(io:1;io:2)", "m(io:1/io:2)", "m[io:1]", "M(io:1)", "m1(io:1)", "1(io:1)", "*(io:1)", "abcdefghi(io:1)", "m:1(io:1)",
    "m(io:1),n(io:1)", "m(io:1)n(io:1)", "m(n(io:1)io:1)", "m(io:1n(io:1))", "m(io:1)(", "m(io:1),", "-", "io drop", "io:1 -", "None", "0", "io:", "io:0 1",
]
NO_STACK_TEXTS = [
    " ", "  ", "- ", " -", "-  |  -", "-|-", "- |", "| -", "|", "- | | -", "- -", "- ; -", "; -", "- ;", ";", "io drop ; -", "- ; io drop",
    "io", "drop", "io ; drop", "io drop ;", "; io drop", "io drop ; ; io drop", "io drop |", "| io drop", "io drop || io drop", "io drop io drop",
    "io  drop", " io drop", "io drop ", "io drop  ; net back", "io drop; net back", "io drop ;net back", "io Drop", "IO drop", "io dropped", "io drop drop",
    "cpu drop", "io,cpu drop", "io,,net drop", ",io drop", "io, drop", "io,net, drop", "io net drop", "io;net drop", "io/net drop", "* drop", "io,* drop",
    "io back back", "io back net", "io keep", "io keep net net", "io keep cpu", "io keep *", "io keep net,", "io keep ,", "io keep drop", "io keep ; io drop",
    "io keep | io drop", "io keep (net)", "io keep ( net )", "io raise", "io raise ; io drop", "io raise | io drop", "io raise cpu", "io raise **",
    "io raise *,*", "io raise (*,*)", "io raise m(*,n(*))", "io raise m()", "io raise ()", "io raise m(", "io raise m)", "io raise m(*", "io raise m(*))",
    "io raise * *", "io raise m(*, net)", "io raise m (*)", "io raise m(cpu)", "io raise m(io:1)", "io raise io:0", "io raise -", "io raise ( * )",
    "io raise abcdefghi(*)", "io raise M(*)", "io raise *m(io)", "io raise m(*)n", "io raise m(*)(io)", "io raise m(*io)", "io raise m(io*)", "io raise m(*/io)",
    "io raise", "io pass", "io pass net drop", "io pass (", "io pass )", "io pass ( )", "io pass ()", "io pass (-)", "io pass ( - ) )", "io pass ( ( - ) )",
    "io pass ( - ", "io pass ( -", "io pass - )", "io pass -", "io pass ( net drop", "io pass net drop )", "io pass (net drop)", "io pass ( net drop )drop",
    "io pass ( net drop | disk drop )", "io pass ( | )", "io pass ( net drop ; )", "io pass ( ; net drop )", "io pass ( - ; net drop )",
    "io pass ( net drop ) net drop", "io pass ( net drop ) ( net drop )", "io pass ( net drop ) ;", "( io drop )", "( - )", "()", "( )", ")", "(", ") (",
    "io ( drop )", "( io ) drop", "io pass ( net drop ) ) ; ( io drop", "io drop ( - )", "io keep ( - )", "io raise ( - )", "( - ) drop", "io pass pass ( - )",
    "io pass ( net pass ( io drop )", "io pass ( ) net drop ( )", "io drop | io pass ( net drop | net drop )", "0", "io:1", "all(net:1)", "io drop - drop",
]


def wrap(tree):
    return ("", (tree,))


def pass_to(guard):
    return ((("io",), ("pass", guard)),)


class Compared(Case):
    """Texts that are read as the grammar reads them, or not at all."""

    def compare(self, kinds, text, read, second, show):
        """Whether the text is one."""
        right, expected = grammar.reads(second, text, kinds.order)
        if right:
            self.assertEqual((read(kinds, text), show(expected)), (expected, text))
        else:
            self.told(NoText, "text", text, read, kinds, text)
        return right

    def changed(self, kinds, texts, dice, *ways):
        counts = [0, 0]
        for text in texts:
            for times in (1, 1, 1, 1, 2, 3) * 6:
                wrong = text
                for _ in range(times):
                    wrong = spoilt(dice, wrong)
                counts[self.compare(kinds, wrong, *ways)] += 1
        self.assertGreater(min(counts), 100)


class TestShow(Case):

    def test_the_examples_of_the_document(self):
        self.assertEqual(show_tree(T), "all(net:1,sub(disk:2,io:3))")
        self.assertEqual(show_stack((G, H, P)), "net drop ; disk back | io raise note(*,net) | io pass ( net raise disk )")
        self.assertEqual(show_template(("", (("*", ("disk", "io")), ("net", 0)))), "(*disk/io,net:0)")

    def test_trees(self):
        for tree, text in TREE_TEXTS:
            self.assertEqual(show_tree(tree), text)

    def test_stacks(self):
        for stack, text in STACK_TEXTS:
            self.assertEqual(show_stack(stack), text)

    def test_forms(self):
        for form, text in [("*", "*"), ("io", "io"), (("", ("*",)), "(*)"), (("m", ("io", "*", "io")), "m(io,*,io)"),
                           (("a", (("b", ("disk", ("", ("*",)))), "net")), "a(b(disk,(*)),net)"), (("io", ("io",)), "io(io)")]:
            self.assertEqual(show_form(form), text)

    def test_templates(self):
        for template, text in [(("*", ("io",)), "*io"), (("*", ("both", "disk", "io", "net")), "*both/disk/io/net"), (("io", 0), "io:0"),
                               (("", (("*", ("net",)),)), "(*net)"), (("m", (("", (("*", ("io",)), ("io", 0))), ("*", ("net",)))), "m((*io,io:0),*net)")]:
            self.assertEqual(show_template(template), text)

    def test_made_values_of_all_families(self):
        for n, bases in enumerate([*FAMILIES, ACTION_NAMES]):
            maker = Maker(800 + n, bases)
            for tree, stack in zip(maker.trees(100), maker.stacks(100)):
                self.assertEqual(show_tree(tree), grammar.tree_text(tree))
                self.assertEqual(show_stack(stack), grammar.stack_text(stack))
                form = maker.form(3, maker.dice.randint(0, 1))
                self.assertEqual(show_form(form), grammar.form_text(form))

    def test_rows_of_made_tables(self):
        for n, bases in enumerate(FAMILIES):
            maker = Maker(810 + n, bases)
            for stack in maker.stacks(20 if len(bases) < 7 else 2):
                for _, _, row in Table(maker.kinds, *stack).rows():
                    if row is not None:
                        self.assertEqual(show_template(row), grammar.template_text(row))

    def test_outcomes_250_deep(self):
        self.assertEqual(show_tree(nested(("io", 1), 250, wrap)), "(" * 250 + "io:1" + ")" * 250)
        up = ((("io",), ("raise", ("n", (("m", ("*",)),)))),)
        s = Scopes(K)
        for n in range(60):
            s.begin("day", up, parent=n - 1 if n else None)
        s.raise_in(59, "io")
        self.assertEqual(show_tree(s.close(0)), "(n(m(day(" * 60 + "io:1" + "))))" * 60)

    def test_forms_templates_and_guards_100_deep(self):
        self.assertEqual(show_form(nested("*", 100, wrap)), "(" * 100 + "*" + ")" * 100)
        self.assertEqual(show_template(nested(("*", ("io",)), 100, wrap)), "(" * 100 + "*io" + ")" * 100)
        self.assertEqual(show_stack((nested((), 100, pass_to),)), "io pass ( " * 100 + "-" + " )" * 100)

    def test_numbers_of_many_digits(self):
        for many in (1, 16, 17, 18, 19, 35, 36, 37, 60, 900):
            for number in (10 ** many, 10 ** many - 1, 10 ** many + 1, int("1203" * many)):
                self.assertEqual(show_tree(("io", number)), "io:" + str(number))

    def test_arguments_by_name(self):
        self.assertEqual((show_tree(tree=("io", 1)), show_template(template=("io", 0)), show_form(form="*"), show_stack(stack=())),
                         ("io:1", "io:0", "*", ""))


class TestReadTree(Compared):

    def test_the_texts_of_trees(self):
        for tree, text in TREE_TEXTS:
            self.assertEqual(read_tree(K, text), tree)

    def test_texts_that_are_none(self):
        for text in NO_TREE_TEXTS:
            with self.subTest(text):
                self.told(NoText, "text", text, read_tree, K, text)

    def test_values_that_are_no_texts(self):
        for thing in [*UNLIKE, T, ("io", 1), ["io:1"], ("io:1",), b"io:1", 1]:
            self.told(NoText, "text", thing, read_tree, K, thing)

    def test_the_kinds_are_those_of_the_table(self):
        self.assertEqual(read_tree(Kinds(cpu=()), "cpu:1"), ("cpu", 1))
        for text in ("net:1", "cpu(net:1)", "cpu(cpu:1,(net:1))"):
            self.told(NoText, "text", text, read_tree, Kinds(cpu=()), text)
            self.told(NoText, "text", text, read_tree, Kinds(), text)

    def test_messages_are_any_names(self):
        self.assertEqual(read_tree(K, "cpu(drop(io:1))"), ("cpu", (("drop", (("io", 1),)),)))

    def test_numbers(self):
        for digits in ("0", "1", "9", "10", "100", "9" * 60, "1" + "0" * 300, "123456789" * 100):
            self.assertEqual(read_tree(K, "io:" + digits), ("io", int(digits)))
            for wrong in ("0" + digits, "-" + digits, "+" + digits, " " + digits, digits + " ", digits + ".", digits + ".0", "0" * 60 + digits):
                self.told(NoText, "text", "io:" + wrong, read_tree, K, "io:" + wrong)

    def test_numbers_as_long_as_a_text_may_be_and_longer(self):
        for digits in ("7" * 3997, "1" + "0" * 4400):
            number = read_tree(K, "io:" + digits)[1]
            self.assertTrue(isinstance(number, int) and number > 10 ** 3990)
            self.assertEqual(show_tree(("io", number)), "io:" + digits)

    def test_groups_50_deep_and_51(self):
        for wrapped, message in ((wrap, ""), (lambda tree: ("m", (tree,)), "m")):
            text = f"{message}(" * 50 + "io:1" + ")" * 50
            self.assertEqual(read_tree(K, text), nested(("io", 1), 50, wrapped))
            for many in (51, 52, 99, 100, 1500):
                text = f"{message}(" * many + "io:1" + ")" * many
                self.told(NoText, "text", text, read_tree, K, text)
        text = "m(io:1,(" + "(" * 48 + "io:1" + ")" * 48 + "),(" + "(" * 48 + "net:1" + ")" * 48 + "))"
        self.assertEqual(show_tree(read_tree(K, text)), text)
        self.told(NoText, "text", f"({text})", read_tree, K, f"({text})")

    def test_parentheses_that_do_not_match(self):
        for text in ("(" * 4000, ")" * 4000, "(" * 40 + "io:1" + ")" * 39, "(" * 39 + "io:1" + ")" * 40, "()" * 2000, "(" * 2000 + ")" * 2000):
            self.told(NoText, "text", text, read_tree, K, text)

    def test_larger_trees_than_may_be_passed(self):
        tree = ("wide", tuple([("io", k) for k in range(700)]))
        self.assertEqual(read_tree(K, show_tree(tree)), tree)
        self.assertEqual(handled(K, (G,), read_tree(K, show_tree(tree))), tree)

    def test_trees_of_made_texts(self):
        for n, bases in enumerate([*FAMILIES, ACTION_NAMES]):
            maker = Maker(820 + n, bases)
            for tree in maker.trees(200):
                found = read_tree(maker.kinds, grammar.tree_text(tree))
                self.assertEqual((found, is_tree(maker.kinds, found)), (tree, True))

    def test_texts_with_something_changed(self):
        texts = [text for _, text in TREE_TEXTS] + [grammar.tree_text(tree) for tree in Maker(831).trees(60)]
        self.changed(K, texts, random.Random(830), read_tree, grammar.read_tree, show_tree)

    def test_all_short_texts(self):
        for many in range(7):
            for signs in itertools.product("a(),:1", repeat=many):
                self.compare(Kinds(a=()), "".join(signs), read_tree, grammar.read_tree, show_tree)

    def test_arguments_by_name(self):
        self.assertEqual(read_tree(text="io:1", kinds=K), ("io", 1))


class TestReadStack(Compared):

    def test_the_texts_of_stacks(self):
        for stack, text in STACK_TEXTS:
            self.assertEqual(read_stack(K, text), stack)

    def test_texts_that_are_none(self):
        for text in NO_STACK_TEXTS:
            with self.subTest(text):
                self.told(NoText, "text", text, read_stack, K, text)

    def test_values_that_are_no_texts(self):
        for thing in [thing for thing in [*UNLIKE, (G,), G, ["io drop"], ["io", "drop"], ("io", "drop"), b"", b"-"] if thing != ""]:
            self.told(NoText, "text", thing, read_stack, K, thing)

    def test_names_that_are_called_like_actions(self):
        kinds = Kinds.of(list(ACTION_NAMES.items()))
        for stack, text in [
                ((((("drop",), "drop"),),), "drop drop"), ((((("back", "drop"), "back"),),), "back,drop back"),
                ((((("keep",), ("keep", ("keep",))),),), "keep keep keep"), ((((("raise",), ("raise", "raise")),),), "raise raise raise"),
                ((((("raise",), ("raise", ("raise", ("raise", "*")))),),), "raise raise raise(raise,*)"),
                ((((("pass",), ("pass", ())),),), "pass pass ( - )"),
                ((((("pass",), ("pass", ((("pass",), ("keep", ("pass", "drop"))),))), (("drop",), ("raise", "pass"))),),
                 "pass pass ( pass keep pass,drop ) ; drop raise pass")]:
            self.assertEqual((read_stack(kinds, text), show_stack(stack)), (stack, text))
        for text in ("drop", "drop drop drop", "keep keep", "keep keep keep keep", "raise raise", "pass pass", "pass pass pass", "pass ( - )",
                     "drop pass", "pass pass ( - ) drop", "back ; back", "drop drop back back", "drop | drop"):
            self.told(NoText, "text", text, read_stack, kinds, text)
        self.assertEqual(read_tree(kinds, "pass(drop:1,raise(back:2))"), ("pass", (("drop", 1), ("raise", (("back", 2),)))))

    def test_the_kinds_are_those_of_the_table(self):
        kinds = Kinds(cpu=())
        self.assertEqual(read_stack(kinds, "cpu keep cpu ; cpu raise io(cpu)"),
                         (((("cpu",), ("keep", ("cpu",))), (("cpu",), ("raise", ("io", ("cpu",))))),))
        for text in ("io drop", "cpu,io drop", "cpu keep io", "cpu raise io", "cpu raise m(io)", "cpu pass ( io drop )", "- | io drop"):
            self.told(NoText, "text", text, read_stack, kinds, text)
            self.told(NoText, "text", text, read_stack, Kinds(), text)
        self.assertEqual((read_stack(Kinds(), ""), read_stack(Kinds(), "- | -")), ((), ((), ())))

    def test_inner_guards_50_deep_and_51(self):
        for inner, last in ((), "-"), (G, "net drop ; disk back"):
            text = "io pass ( " * 50 + last + " )" * 50
            stack = read_stack(K, text)
            self.assertEqual((stack, is_stack(K, stack)), ((nested(inner, 50, pass_to),), True))
            for many in (51, 52, 100, 300):
                text = "io pass ( " * many + last + " )" * many
                self.told(NoText, "text", text, read_stack, K, text)
                self.told(NoText, "text", "- | " + text, read_stack, K, "- | " + text)

    def test_forms_50_deep_and_51(self):
        for piece in ("*", "io"):
            text = "io raise " + "(" * 50 + piece + ")" * 50
            self.assertEqual(read_stack(K, text), (((("io",), ("raise", nested(piece, 50, wrap))),),))
            for many in (51, 52, 100, 1900):
                text = "io raise " + "m(" * many + piece + ")" * many
                self.told(NoText, "text", text, read_stack, K, text)

    def test_groups_and_inner_guards_are_counted_by_themselves(self):
        last = "io raise " + "(" * 50 + "*" + ")" * 50
        text = "io pass ( " * 50 + last + " )" * 50
        self.assertEqual(show_stack(read_stack(K, text)), text)
        for wrong in (text.replace("*", "(*)"), "io pass ( " + text + " )"):
            self.told(NoText, "text", wrong, read_stack, K, wrong)

    def test_inner_guards_side_by_side(self):
        one = "io pass ( net pass ( - ) )"
        text = " ; ".join([one] * 40) + " | " + one
        self.assertEqual(show_stack(read_stack(K, text)), text)

    def test_parentheses_that_do_not_match(self):
        for text in ("io pass ( " * 300, "( " * 1000 + "(", ") " * 1000 + ")", "io pass ( " * 40 + "-" + " )" * 39, "io pass ( " * 39 + "-" + " )" * 40):
            self.told(NoText, "text", text, read_stack, K, text)

    def test_larger_stacks_and_forms_than_may_be_passed(self):
        form = ("m", (*["io"] * 200, "*", *["net"] * 200))
        stack = ((*G * 30, (("io",), ("raise", form))), *[H] * 30, ((("io",) * 300, ("keep", ("net",) * 300)),))
        self.assertEqual(read_stack(K, show_stack(stack)), stack)
        self.assertEqual(show_stack(read_stack(K, show_stack(stack))), grammar.stack_text(stack))

    def test_stacks_of_made_texts(self):
        for n, bases in enumerate([*FAMILIES, ACTION_NAMES]):
            maker = Maker(840 + n, bases)
            for stack in maker.stacks(200):
                found = read_stack(maker.kinds, grammar.stack_text(stack))
                self.assertEqual((found, is_stack(maker.kinds, found)), (stack, True))

    def test_edges(self):
        for stack in [*EDGES, *ONE_CLAUSE]:
            self.assertEqual(read_stack(K, show_stack(stack)), stack)

    def test_texts_with_something_changed(self):
        texts = [text for _, text in STACK_TEXTS] + [grammar.stack_text(stack) for stack in [*EDGES, *Maker(851).stacks(80)]]
        self.changed(K, texts, random.Random(850), read_stack, grammar.read_stack, show_stack)

    def test_texts_of_names_like_actions_with_something_changed(self):
        maker = Maker(852, ACTION_NAMES)
        texts = [grammar.stack_text(stack) for stack in maker.stacks(80)]
        self.changed(maker.kinds, texts, maker.dice, read_stack, grammar.read_stack, show_stack)

    def test_all_texts_of_few_words(self):
        words = ["a", "drop", "raise", "pass", "(", ")", ";", "|", "-", "*"]
        for many in range(5):
            for chosen in itertools.product(words, repeat=many):
                self.compare(Kinds(a=()), " ".join(chosen), read_stack, grammar.read_stack, show_stack)

    def test_arguments_by_name(self):
        self.assertEqual(read_stack(text="-", kinds=K), ((),))


class TestTextsStandForValues(Case):

    def test_unlike_values_have_unlike_texts(self):
        for values, show in (([tree for tree, _ in TREE_TEXTS] + Maker(860).trees(300), show_tree),
                             ([*EDGES, *ONE_CLAUSE, *Maker(861).stacks(300)], show_stack), (FORMS, show_form)):
            texts = {}
            for value in values:
                self.assertEqual(texts.setdefault(show(value), value), value)

    def test_the_texts_of_actions_are_read_as_these_actions(self):
        for action in ACTIONS:
            stack = (((("io",), action),),)
            self.assertEqual(read_stack(K, show_stack(stack)), stack)

    def test_forms_are_read_within_stacks(self):
        for form in [*FORMS, *[Maker(862 + n).form(4, n % 2) for n in range(60)]]:
            self.assertTrue(is_form(K, form))
            self.assertEqual(read_stack(K, "io raise " + show_form(form)), (((("io",), ("raise", form)),),))

    def test_what_is_read_can_be_run(self):
        deep = read_stack(K, "io pass ( " * 50 + "io raise m(*)" + " )" * 50)
        self.assertEqual(handled(K, deep, ("io", 1)), nested(("m", (("", (("io", 1),)),)), 51, wrap))
        self.assertEqual(handled(K, read_stack(K, "net drop | io raise note(*,net)"), read_tree(K, "m(net:1,io:2)")),
                         read_tree(K, "(note(m(io:2),net:0))"))


if __name__ == "__main__":
    unittest.main()
