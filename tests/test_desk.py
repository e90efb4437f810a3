import itertools
import random
import unittest

import grammar
from errorplaces.desk import Desk
from errorplaces.errors import Closed, NoBases, NoCommand, NoError, NoKind, NoKinds, NoName, NoNames, NoScope, NoStack, NoTree, TooMany
from errorplaces.kinds import Kinds
from errorplaces.running import handled
from errorplaces.scopes import Scopes
from errorplaces.tables import Table
from cases import Case
from made import ACTION_NAMES, BASES, FAMILIES, FIVE, Maker, spoilt
from samples import G, H, K, P, T, UNLIKE, nested

KINDS = "kinds io net<io disk<io both<net,disk"
G_TEXT = "net drop ; disk back"
H_TEXT = "io raise note(*,net)"
P_TEXT = "io pass ( net raise disk )"
T_TEXT = "all(net:1,sub(disk:2,io:3))"
NO_COMMANDS = [
    "", " ", "  ", "say", "kinds", "open", "under", "set", "raise", "close", "place", "destiny", "handle", "row", "Open day", "OPEN day", "opens day",
    "kinds ", "kinds  io", " kinds io", "kinds io ", "kinds io  net", "kinds IO", "kinds i1", "kinds abcdefghi", "kinds io<", "kinds <io", "kinds <",
    "kinds io net<io,", "kinds io net<,io", "kinds io net<io<io", "kinds io net< io", "kinds io net <io", "kinds io net>io", "kinds io,net", "kinds io:1",
    "kinds io ;", "kinds -", "kinds io net<*", "kinds io net<io,,io", "kinds io net<IO", "kinds io net<abcdefghi", "kinds io net<io disk<",
    "open ", "open  day", " open day", "open day ", "open Day", "open abcdefghi", "open 0", "open day io", "open day io drop ", "open day  io drop",
    "open day drop", "open day io drop ;", "open day |", "open day io keep", "open day io raise (*,*)", "open day io raise m()", "open day ( - )",
    "open day io pass ( )", "open day io,drop", "open day day", "open day - ; io drop", "open io drop", "open m(io:1)", "open day -  | -", "open -",
    "under 0", "under day", "under 0 ", "under 0  day", "under 0 day ", "under 0 0", "under day 0", "under 00 day", "under 01 day", "under -1 day",
    "under +1 day", "under 1.0 day", "under x day", "under 0 day io", "under 0 day day", "under 0 io drop", "under 0 Day", "under None day",
    "set ", "set 0 ", "set 0  -", "set 00", "set 01 -", "set -0", "set x", "set -", "set io drop", "set 0 io", "set 0 day -", "set 0 0", "set 0 - -",
    "raise 0", "raise 0 ", "raise io", "raise 0 io net", "raise 0 io,", "raise 0 ,io", "raise 0 io,,net", "raise 0 io, net", "raise 00 io", "raise -1 io",
    "raise 0 IO", "raise 0 io:1", "raise 0 *", "raise 0 -", "raise 0 io/net", "raise 0 abcdefghi", "raise io 0", "raise  0 io", "raise 0  io", "raise 0 0",
    "close 00", "close 01", "close -1", "close +1", "close x", "close 0 0", "close 0 ", "close  0", " close 0", "close 0.0", "close None", "close True", "close -",
    "place 00", "place 07", "place -1", "place x", "place 1 1", "place 1 ", "place 1,2", "place 1.0", "place  1", "place 0x1", "place 1_0", "place 1e3",
    "destiny 00", "destiny 01", "destiny -1", "destiny x", "destiny 1 1", "destiny 1 ", "destiny 1,2", "destiny (1)", "destiny *",
    "handle ", "handle io", "handle io:01", "handle io:1 ", "handle  io:1", "handle io:1 io", "handle io:1 io:1", "handle m()", "handle m(io:1", "handle io:-1",
    "handle - io:1", "handle -", "handle io:1 - - ", "handle io:1 drop", "handle m(io:1, io:2)", "handle io:1 io raise **", "handle *", "handle io drop",
    "row ", "row io, ", "row io,", "row io net", "row io  -", "row io ", "row *", "row io:1", "row 0", "row IO", "row -", "row io/net", "row io io keep", "row io drop",
    "row io io keep ( - )", "row io ( - ) drop", "row io io raise ( - )", "row io io pass ( ( - ) )", "row io io pass ( io keep ( io drop ) )",
    "handle " + "(" * 51 + "io:1" + ")" * 51, "handle io:1 " + "io pass ( " * 51 + "-" + " )" * 51, "open day io raise " + "(" * 51 + "*" + ")" * 51,
    "row io " + "io pass ( " * 51 + "-" + " )" * 51, "set 0 io raise " + "m(" * 51 + "io" + ")" * 51,
]


def told(kinds=KINDS, *commands):
    """A desk that has been told these commands."""
    desk = Desk()
    desk.say(kinds)
    for command in commands:
        desk.say(command)
    return desk


def day():
    """A desk with the scopes 0 and 1, one under the other, and the scope 2, which is closed."""
    return told(KINDS, "open day " + H_TEXT, "under 0 job " + G_TEXT, "open other", "raise 1 net,io", "raise 0 disk", "close 2")


def answers(desk):
    """The answers to all that can be asked without a change, and whether the scopes are open."""
    found = []
    for command in [*[f"place {n}" for n in range(1, 6)], *[f"destiny {n}" for n in range(1, 6)], "row io,net", "handle io:1"]:
        found.append(answer(desk.say, command))
    return found


def answer(call, *arguments):
    """What is returned, or the class and the fields of the error."""
    try:
        return call(*arguments)
    except Exception as error:
        return type(error), vars(error)


class Twin:
    """Answers the same commands by scopes, handled and Table, where all of them are commands."""

    def __init__(self):
        self.kinds = self.scopes = None

    def say(self, command):
        word, values = grammar.read_command(command)
        if word == "kinds":
            kinds = Kinds.of(values)
            self.kinds, self.scopes = kinds, Scopes(kinds)
            return "ok"
        if self.kinds is None:
            raise NoKinds
        return getattr(self, "say_" + word)(*values)

    def say_open(self, message, stack):
        return f"{self.scopes.begin(message, *stack)}"

    def say_under(self, scope, message, stack):
        return f"{self.scopes.begin(message, *stack, parent=scope)}"

    def say_set(self, scope, stack):
        self.scopes.set_stack(scope, *stack)
        return "ok"

    def say_raise(self, scope, names):
        return " ".join(map(str, self.scopes.raise_in(scope, *names)))

    def say_close(self, scope):
        outcome = self.scopes.close(scope)
        return grammar.tree_text(outcome) if outcome else "-"

    def say_place(self, number):
        return self.told(*self.scopes.place_of(number))

    def say_destiny(self, number):
        return self.told(*self.scopes.destiny(number))

    def told(self, word, scope, indices=None):
        return f"{word} {scope}" if indices is None else f"{word} {scope} {'.'.join(map(str, indices))}"

    def say_handle(self, tree, stack):
        outcome = handled(self.kinds, stack, tree)
        return grammar.tree_text(outcome) if outcome else "-"

    def say_row(self, names, stack):
        row = Table(self.kinds, *stack).row(names)
        return grammar.template_text(row) if row else "-"


class Talk:
    """Makes commands."""

    def __init__(self, seed, bases):
        self.maker = Maker(seed, bases)
        self.dice = self.maker.dice
        rows = [name + ("<" + ",".join(above) if above else "") for name, above in bases.items()]
        self.kinds = "kinds " + " ".join(rows)
        self.scopes = self.errors = 0

    def ended(self, *words):
        stack = grammar.stack_text(self.maker.stack(2))
        return " ".join([*map(str, words), *([stack] if stack else [])])

    def names(self):
        return ",".join([self.dice.choice([*self.maker.names * 6, "cpu"]) for _ in range(self.dice.randint(1, 3))])

    def command(self):
        word = self.dice.choice(["open", "under", "under", "set", "raise", "raise", "raise", "close", "place", "destiny", "handle", "row"])
        if word == "open":
            return self.ended(word, self.dice.choice(["day", "job"]))
        if word == "under":
            return self.ended(word, self.dice.randint(0, self.scopes), self.dice.choice(["day", "job"]))
        if word == "set":
            return self.ended(word, self.dice.randint(0, self.scopes))
        if word == "raise":
            return f"raise {self.dice.randint(0, self.scopes)} {self.names()}"
        if word == "handle":
            return self.ended(word, grammar.tree_text(self.maker.tree()))
        if word == "row":
            return self.ended(word, self.names())
        return f"{word} {self.dice.randint(0, self.scopes if word == 'close' else self.errors + 1)}"

    def heard(self, command, found):
        """Learns how many scopes and errors there are."""
        if isinstance(found, str) and command.split(" ")[0] in ("open", "under"):
            self.scopes = int(found) + 1
        if isinstance(found, str) and command.split(" ")[0] == "raise":
            self.errors = int(found.split(" ")[-1])


class TestAnswers(Case):

    def test_the_examples_of_the_document_as_commands(self):
        desk = Desk()
        for command, expected in [
                (KINDS, "ok"), ("open day " + H_TEXT, "0"), ("under 0 job " + G_TEXT, "1"), ("raise 1 net,io", "1 2"), ("raise 0 disk", "3"),
                ("destiny 1", "dropped 1 0.0"), ("destiny 3", "out 0"), ("place 2", "waiting 1 1"), ("close 1", "job(io:2)"),
                ("place 1", "dropped 1 0.0"), ("place 2", "waiting 0 0.0"), ("place 3", "waiting 0 1"),
                ("close 0", "(note(day(job(io:2),disk:3),net:4))"), ("place 2", "out 0 0.0.0.0"), ("place 4", "out 0 0.1"), ("destiny 4", "out 0"),
                (f"handle {T_TEXT} {G_TEXT}", "all(sub(disk:2,io:3))"), (f"handle {T_TEXT} {P_TEXT}", "((disk:0,all(sub(disk:2,io:3))))"),
                (f"handle {T_TEXT} {G_TEXT} | {H_TEXT}", "(note(all(sub(disk:2,io:3)),net:0))"),
                (f"handle io:3 {G_TEXT}", "io:3"), (f"handle disk:2 {G_TEXT}", "(disk:2)"), (f"handle net:1 {G_TEXT}", "-"),
                (f"row io,net {G_TEXT} | {H_TEXT}", "(note(*io,net:0))"), (f"row net {G_TEXT}", "-"), ("row disk,io", "*disk/io")]:
            self.assertEqual((command, desk.say(command)), (command, expected))

    def test_empty_stacks(self):
        desk = told()
        for command, expected in [("open day", "0"), ("under 0 job", "1"), ("open day -", "2"), ("set 0", "ok"), ("set 1 -", "ok"), ("raise 1 io", "1"),
                                  ("close 1", "job(io:1)"), ("close 0", "day(job(io:1))"), ("handle io:1", "io:1"), ("handle io:1 -", "io:1"),
                                  ("handle m(io:1,(net:2)) - | -", "m(io:1,(net:2))"), ("row io", "*io"), ("row net,both,io -", "*both/io/net")]:
            self.assertEqual((command, desk.say(command)), (command, expected))

    def test_several_guards(self):
        self.assertEqual(told().say(f"handle (both:1,io:2) - | both back ; io raise m(io) | {H_TEXT}"), "(note((m(io:0),(both:1)),net:0))")

    def test_close(self):
        desk = told(KINDS, "open day", "open job net drop", "raise 1 net,both", "under 0 sub", "raise 2 io")
        self.assertEqual([desk.say("close 1"), desk.say("destiny 1"), desk.say("place 2")], ["-", "dropped 1 0.0", "dropped 1 0.0"])
        self.assertEqual([desk.say("close 0"), desk.say("place 3")], ["day(sub(io:3))", "out 0 0.0"])
        self.told(Closed, "scope", 2, desk.say, "close 2")

    def test_an_empty_scope_has_no_outcome(self):
        self.assertEqual(told(KINDS, "open day " + H_TEXT).say("close 0"), "-")

    def test_set(self):
        desk = told(KINDS, "open day", "raise 0 net")
        self.assertEqual([desk.say("destiny 1"), desk.say("set 0 net drop"), desk.say("destiny 1"), desk.say("set 0"), desk.say("destiny 1")],
                         ["out 0", "ok", "dropped 0 0.0", "ok", "out 0"])

    def test_addresses_of_inner_guards(self):
        desk = told(KINDS, "open day io back | disk back ; io pass ( disk back ; net pass ( net drop ) )", "raise 0 net,io")
        self.assertEqual([desk.say("destiny 1"), desk.say("close 0"), desk.say("place 1")], ["dropped 0 1.1.1.0", "day(io:2)", "dropped 0 1.1.1.0"])

    def test_raise_the_same_kind_again(self):
        self.assertEqual(told(KINDS, "open day").say("raise 0 io,io,net,io"), "1 2 3 4")

    def test_kinds_begins_anew(self):
        desk = day()
        self.assertEqual(desk.say("kinds io cpu<io"), "ok")
        for command, error, field, value in [("close 0", NoScope, "scope", 0), ("place 1", NoError, "number", 1), ("destiny 1", NoError, "number", 1),
                                             ("row net", NoNames, "names", ("net",)), ("handle net:1", NoTree, "tree", ("net", 1))]:
            self.told(error, field, value, desk.say, command)
        self.assertEqual([desk.say("open day"), desk.say("raise 0 cpu"), desk.say("close 0"), desk.say("row cpu io drop")],
                         ["0", "1", "day(cpu:1)", "-"])
        self.assertEqual([desk.say("kinds io cpu<io"), desk.say("open day"), desk.say("raise 0 io")], ["ok", "0", "1"])

    def test_names_that_are_called_like_words(self):
        desk = told("kinds drop back<drop keep raise<keep,drop pass<raise kinds")
        self.assertEqual(desk.say("handle (drop:1,raise:2,pass:3,kinds:4) raise raise raise(raise,*) ; kinds keep drop"),
                         "(raise(raise:0,(raise:2,pass:3)),(drop:1))")
        self.assertEqual([desk.say("open open drop drop"), desk.say("raise 0 raise,kinds"), desk.say("close 0"), desk.say("row pass pass pass ( - )")],
                         ["0", "1 2", "open(kinds:2)", "*pass"])

    def test_a_kind_called_self(self):
        desk = told("kinds self type<self")
        self.assertEqual(desk.say("handle (self:1,type:2) type drop"), "(self:1)")

    def test_seven_kinds(self):
        desk = told("kinds a b<a c<b d e<d,a f<c,e g")
        self.assertEqual(desk.say("row g,f,e,d,c,b,a a drop"), "*d/g")

    def test_texts_of_50_groups_and_guards(self):
        deep = "(" * 50 + "io:1" + ")" * 50
        self.assertEqual(told().say("handle " + deep), deep)
        self.assertEqual(told().say(f"handle {deep} {H_TEXT}"), f"(note({deep},net:0))")
        self.assertEqual(told().say("handle io:1 " + "io pass ( " * 50 + "io drop" + " )" * 50), "-")

    def test_outcomes_of_240_groups(self):
        desk = told()
        for n in range(60):
            desk.say((f"under {n - 1} day" if n else "open day") + " io raise n(m(*))")
        desk.say("raise 59 io")
        self.assertEqual(desk.say("close 0"), "(n(m(day(" * 60 + "io:1" + "))))" * 60)
        self.assertEqual(desk.say("place 1"), "out 0 " + ".".join(["0"] * 240))

    def test_the_command_by_name(self):
        self.assertEqual(Desk().say(command="kinds io"), "ok")

    def test_answers_are_strings(self):
        desk = Desk()
        for command in (KINDS, "open day", "under 0 job", "set 0", "raise 0 io", "place 1", "destiny 1", "handle io:1", "row io", "close 0"):
            self.assertIs(type(desk.say(command)), str)

    def test_two_desks_share_nothing(self):
        one, other = told(KINDS, "open day"), Desk()
        with self.assertRaises(NoKinds):
            other.say("close 0")
        other.say("kinds cpu")
        self.assertEqual([other.say("open day"), one.say("raise 0 net"), other.say("raise 0 cpu"), one.say("close 0"), other.say("close 0")],
                         ["0", "1", "1", "day(net:1)", "day(cpu:1)"])


class TestErrors(Case):

    def test_what_is_no_command(self):
        for desk in (Desk(), told(), day()):
            for command in NO_COMMANDS:
                self.told(NoCommand, "command", command, desk.say, command)

    def test_values_that_are_no_commands(self):
        for desk in (Desk(), day()):
            for thing in [*UNLIKE, [KINDS], (KINDS,), ["kinds", "io"], ("close", "0"), b"kinds io", ("close", 0)]:
                self.told(NoCommand, "command", thing, desk.say, thing)

    def test_without_kinds(self):
        for desk in (Desk(), self.refused(Desk())):
            for command in ("open day", "open day cpu drop", "under 0 day", "set 0", "set 99 cpu drop", "raise 0 cpu", "close 0", "place 0", "destiny 7",
                            "handle cpu:1", "handle cpu:1 cpu drop", "row cpu", "row cpu,cpu cpu drop", "close 123456789012345678901234567890"):
                with self.assertRaises(NoKinds) as caught:
                    desk.say(command)
                self.assertIs(type(caught.exception), NoKinds)
            self.assertEqual(desk.say("kinds io"), "ok")
            self.assertEqual(desk.say("open day"), "0")

    def refused(self, desk):
        for command in ("kinds io io", "kinds io net<disk", "kinds", "kinds a b c d e f g h"):
            with self.assertRaises((NoName, NoBases, NoCommand, TooMany)):
                desk.say(command)
        return desk

    def test_wrong_kinds(self):
        for desk in (Desk(), day()):
            before = answers(desk)
            for command, error, field, value in [
                    ("kinds a b c d e f g h", TooMany, "limit", 7), ("kinds a a a a a a a a", TooMany, "limit", 7),
                    ("kinds io net<disk disk", NoBases, "bases", ("disk",)), ("kinds io<io", NoBases, "bases", ("io",)),
                    ("kinds io net<io,io", NoBases, "bases", ("io", "io")), ("kinds io net<io,cpu disk<x", NoBases, "bases", ("io", "cpu")),
                    ("kinds io net io", NoName, "name", "io"), ("kinds io net<disk io", NoName, "name", "io"), ("kinds a<x b<y b a", NoName, "name", "b")]:
                self.told(error, field, value, desk.say, command)
                self.assertEqual(answers(desk), before)

    def test_the_errors_of_each_command(self):
        desk = day()
        before = answers(desk)
        for command, error, field, value in [
                ("open day cpu drop", NoStack, "stack", (((("cpu",), "drop"),),)), ("open day io drop | io keep cpu", NoStack, "stack",
                                                                                       (((("io",), "drop"),), ((("io",), ("keep", ("cpu",))),))),
                ("under 9 day", NoScope, "scope", 9), ("under 2 day", Closed, "scope", 2), ("under 9 day io raise cpu", NoStack, "stack",
                                                                                             (((("io",), ("raise", "cpu")),),)),
                ("set 3 io drop", NoScope, "scope", 3), ("set 2 io drop", Closed, "scope", 2), ("set 0 cpu back", NoStack, "stack", (((("cpu",), "back"),),)),
                ("set 3 cpu drop", NoScope, "scope", 3), ("set 2 cpu drop", Closed, "scope", 2),
                ("raise 3 io", NoScope, "scope", 3), ("raise 2 io", Closed, "scope", 2), ("raise 0 io,cpu,net,x", NoKind, "name", "cpu"),
                ("raise 3 cpu", NoScope, "scope", 3), ("raise 2 cpu", Closed, "scope", 2),
                ("close 3", NoScope, "scope", 3), ("close 2", Closed, "scope", 2), ("close " + "9" * 60, NoScope, "scope", int("9" * 60)),
                ("place 0", NoError, "number", 0), ("place 4", NoError, "number", 4), ("destiny 0", NoError, "number", 0), ("destiny 99", NoError, "number", 99),
                ("handle cpu:1", NoTree, "tree", ("cpu", 1)), ("handle m(io:1,cpu:1) io drop", NoTree, "tree", ("m", (("io", 1), ("cpu", 1)))),
                ("handle io:1 cpu drop", NoStack, "stack", (((("cpu",), "drop"),),)), ("handle cpu:1 cpu drop", NoStack, "stack", (((("cpu",), "drop"),),)),
                ("row cpu", NoNames, "names", ("cpu",)), ("row io,io", NoNames, "names", ("io", "io")), ("row io,net,io io drop", NoNames, "names", ("io", "net", "io")),
                ("row io cpu drop", NoStack, "stack", (((("cpu",), "drop"),),)), ("row cpu,cpu cpu drop", NoStack, "stack", (((("cpu",), "drop"),),)),
                ("row io,io io pass ( x raise y )", NoStack, "stack", (((("io",), ("pass", ((("x",), ("raise", "y")),))),),))]:
            self.told(error, field, value, desk.say, command)
            self.assertEqual(answers(desk), before)
        self.assertEqual([desk.say("open day"), desk.say("raise 3 io"), desk.say("close 0")],
                         ["3", "4", "(note(day(job(io:2),disk:3),net:5))"])

    def test_sixty_scopes_and_one_more(self):
        desk = told()
        self.assertEqual([desk.say("open day") for _ in range(60)], [str(n) for n in range(60)])
        desk.say("close 0")
        for command in ("open day", "under 7 day", "under 7 day io drop"):
            self.told(TooMany, "limit", 60, desk.say, command)
        self.told(Closed, "scope", 0, desk.say, "under 0 day")
        self.told(NoStack, "stack", (((("cpu",), "drop"),),), desk.say, "open day cpu drop")
        self.assertEqual([desk.say(KINDS), desk.say("open day")], ["ok", "0"])

    def test_any_names_of_kinds_make_a_command(self):
        for command in ("handle cpu:1", "handle x(y:1) z drop", "row x,y", "raise 0 x", "open day x raise y(*,z)", "set 0 x pass ( y keep z )"):
            with self.assertRaises(NoKinds):
                Desk().say(command)

    def test_the_order_of_the_errors(self):
        for command in ("handle cpu:1 cpu", "row cpu,", "open day cpu raise (*,*)", "close 00", "under 9 Day", "raise 9 cpu,"):
            for desk in (Desk(), day()):
                self.told(NoCommand, "command", command, desk.say, command)

    def test_commands_with_something_changed(self):
        dice = random.Random(900)
        commands = [KINDS, "open day", "open day " + H_TEXT, "under 0 job " + G_TEXT, "set 0", "set 10 " + P_TEXT, "raise 1 net,io", "close 0", "place 12",
                    "destiny 3", f"handle {T_TEXT} {G_TEXT} | {H_TEXT}", "handle io:1", f"row io,net {P_TEXT} | -", "row io", "kinds io net<io,io"]
        counts = [0, 0]
        for command, times in itertools.product(commands, [1] * 60 + [2, 3] * 10):
            wrong = command
            for _ in range(times):
                wrong = spoilt(dice, wrong)
            right, read = grammar.reads(grammar.read_command, wrong)
            counts[right] += 1
            if not right:
                self.told(NoCommand, "command", wrong, Desk().say, wrong)
            elif read[0] == "kinds":
                self.assertEqual(answer(Desk().say, wrong), answer(Twin().say, wrong))
            else:
                self.assertEqual(answer(Desk().say, wrong), (NoKinds, {}))
        self.assertGreater(min(counts), 100)


class TestTalks(Case):
    """A desk answers as scopes, handled and Table do."""

    def test_made_talks(self):
        for n, bases in enumerate([*FAMILIES[:4], FIVE, ACTION_NAMES]):
            for seed in range(8):
                self.talk(Talk(910 + 100 * n + seed, bases), 60)

    def talk(self, talk, many):
        desk, twin = Desk(), Twin()
        self.both(desk, twin, talk, talk.kinds)
        for _ in range(many):
            self.both(desk, twin, talk, talk.command())

    def both(self, desk, twin, talk, command):
        found, expected = answer(desk.say, command), answer(twin.say, command)
        self.assertEqual((command, found), (command, expected))
        talk.heard(command, found)

    def test_talks_with_new_kinds_and_wrong_words(self):
        for seed in range(10):
            talk, desk, twin = Talk(1000 + seed, BASES), Desk(), Twin()
            for _ in range(40):
                command = talk.dice.choice([talk.kinds, "kinds io net<io", "kinds io io", "open day", "raise 0 io"] + [talk.command() for _ in range(30)])
                command = spoilt(talk.dice, command) if talk.dice.random() < 0.2 else command
                found = answer(desk.say, command)
                right, _ = grammar.reads(grammar.read_command, command)
                self.assertEqual(found, answer(twin.say, command) if right else (NoCommand, {"command": command}))
                talk.heard(command, found)

    def test_seven_kinds(self):
        talk = Talk(1020, FAMILIES[4])
        self.talk(talk, 40)

    def test_what_was_said_stays(self):
        talk, desk = Talk(1030, BASES), told()
        said = []
        for _ in range(60):
            command = talk.command()
            found = answer(desk.say, command)
            talk.heard(command, found)
            if isinstance(found, str):
                said.append((command, found))
        again = told()
        self.assertEqual([(command, again.say(command)) for command, _ in said], said)

    def test_handle_and_row_need_no_scopes(self):
        self.assertEqual(told().say(f"handle {grammar.tree_text(T)} {grammar.stack_text((G, H, P))}"), grammar.tree_text(handled(K, (G, H, P), T)))
        self.assertEqual(told().say("row net,io " + grammar.stack_text((P, G))), grammar.template_text(Table(K, P, G).row(["io", "net"])))

    def test_handled_trees_deeper_than_texts_can_be_read(self):
        stack = (((("io",), ("raise", ("m", ("*",)))),),) * 6
        tree = nested(("io", 1), 50, lambda inner: ("", (inner,)))
        found = told().say(f"handle {grammar.tree_text(tree)} {grammar.stack_text(stack)}")
        self.assertEqual(found, grammar.tree_text(handled(K, stack, tree)))
        self.told(NoCommand, "command", "handle " + found, told().say, "handle " + found)


if __name__ == "__main__":
    unittest.main()
