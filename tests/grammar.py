"""A second way with texts: written and read by descent, letter by letter and word by word.

It uses nothing of the package.
"""

import re

NAME = re.compile("[a-z]{1,8}")
LEAF = re.compile("([a-z]{1,8}):(0|[1-9][0-9]*)")
DEEPEST = 50


class Wrong(Exception):
    """The text is the text of nothing."""


def group_text(node, piece_text):
    if isinstance(node, tuple) and isinstance(node[1], tuple) and node[0] != "*":
        return node[0] + "(" + ",".join([group_text(child, piece_text) for child in node[1]]) + ")"
    return piece_text(node)


def tree_text(tree):
    return group_text(tree, lambda leaf: leaf[0] + ":" + str(leaf[1]))


def template_text(template):
    return group_text(template, lambda piece: "*" + "/".join(piece[1]) if piece[0] == "*" else piece[0] + ":0")


def form_text(form):
    return group_text(form, str)


def stack_text(stack):
    return " | ".join([guard_text(guard) for guard in stack])


def guard_text(guard):
    return " ; ".join([",".join(names) + " " + action_text(action) for names, action in guard]) or "-"


def action_text(action):
    if action in ("drop", "back"):
        return action
    told = {"keep": ",".join, "raise": form_text, "pass": lambda guard: "( " + guard_text(guard) + " )"}
    return action[0] + " " + told[action[0]](action[1])


class Letters:
    """A word that is read from left to right."""

    def __init__(self, word):
        self.word = word
        self.at = 0

    def next_is(self, sign):
        found = self.word.startswith(sign, self.at)
        self.at += len(sign) if found else 0
        return found

    def match(self, pattern):
        found = pattern.match(self.word, self.at)
        if found:
            self.at = found.end()
        return found

    def node(self, piece, depth=0):
        """A group, or what piece() reads."""
        start = self.at
        message = self.match(NAME)
        if not self.next_is("("):
            self.at = start
            return piece()
        if depth == DEEPEST:
            raise Wrong
        children = [self.node(piece, depth + 1)]
        while self.next_is(","):
            children.append(self.node(piece, depth + 1))
        if not self.next_is(")"):
            raise Wrong
        return (message.group() if message else "", tuple(children))

    def whole(self, piece):
        node = self.node(piece)
        if self.at < len(self.word):
            raise Wrong
        return node


def tree_of(word, names=None):
    """The tree that a word writes, of these names of kinds or of any."""
    letters = Letters(word)

    def leaf():
        found = letters.match(LEAF)
        if not found or (names is not None and found[1] not in names):
            raise Wrong
        return (found[1], int(found[2]))

    return letters.whole(leaf)


def form_of(word, names=None):
    letters = Letters(word)
    stars = []

    def piece():
        if letters.next_is("*"):
            stars.append(1)
            return "*"
        found = letters.match(NAME)
        if not found or (names is not None and found[0] not in names):
            raise Wrong
        return found[0]

    form = letters.whole(piece)
    if len(stars) > 1:
        raise Wrong
    return form


def names_of(word, names=None):
    found = word.split(",")
    if not all(NAME.fullmatch(name) and (names is None or name in names) for name in found):
        raise Wrong
    return tuple(found)


def number_of(word):
    if not re.fullmatch("0|[1-9][0-9]*", word):
        raise Wrong
    return int(word)


class Words:
    """Words that are read one by one."""

    def __init__(self, words, names):
        self.words = list(words)
        self.names = names

    def take(self):
        if not self.words:
            raise Wrong
        return self.words.pop(0)

    def next_is(self, word):
        found = self.words[:1] == [word]
        if found:
            self.words.pop(0)
        return found

    def several(self, one, sign):
        found = [one()]
        while self.next_is(sign):
            found.append(one())
        return tuple(found)

    def stack(self):
        if not self.words:
            return ()
        found = self.several(lambda: self.guard(0), "|")
        if self.words:
            raise Wrong
        return found

    def guard(self, depth):
        return () if self.next_is("-") else self.several(lambda: self.clause(depth), ";")

    def clause(self, depth):
        return (names_of(self.take(), self.names), self.action(self.take(), depth))

    def action(self, word, depth):
        if word in ("drop", "back"):
            return word
        if word == "keep":
            return (word, names_of(self.take(), self.names))
        if word == "raise":
            return (word, form_of(self.take(), self.names))
        if word != "pass" or not self.next_is("(") or depth == DEEPEST:
            raise Wrong
        guard = self.guard(depth + 1)
        if not self.next_is(")"):
            raise Wrong
        return (word, guard)


def words_of(text):
    words = text.split(" ") if text else []
    if "" in words:
        raise Wrong
    return words


def read_tree(text, names=None):
    word, = words_of(text) if len(words_of(text)) == 1 else [""]
    return tree_of(word, names)


def read_stack(text, names=None):
    return Words(words_of(text), names).stack()


def read_row(word):
    name, *bases = word.split("<", 1)
    if not NAME.fullmatch(name):
        raise Wrong
    return (name, names_of(bases[0]) if bases else ())


def read_name(word):
    if not NAME.fullmatch(word):
        raise Wrong
    return word


COMMANDS = {
    "open": [read_name, "STACK"], "under": [number_of, read_name, "STACK"], "set": [number_of, "STACK"],
    "raise": [number_of, names_of], "close": [number_of], "place": [number_of], "destiny": [number_of],
    "handle": [tree_of, "STACK"], "row": [names_of, "STACK"],
}


def read_command(text):
    """The first word of a command, and the list of what the others write."""
    words = words_of(text)
    if words[:1] == ["kinds"] and len(words) > 1:
        return words[0], [read_row(word) for word in words[1:]]
    if not words or words[0] not in COMMANDS:
        raise Wrong
    first, *rest = words
    told = []
    for reader in COMMANDS[first]:
        if reader == "STACK":
            told.append(Words(rest, None).stack())
            rest = []
        elif not rest:
            raise Wrong
        else:
            told.append(reader(rest.pop(0)))
    if rest:
        raise Wrong
    return first, told


def reads(read, *arguments):
    """Whether these are read, and as what."""
    try:
        return (True, read(*arguments))
    except Wrong:
        return (False, None)
