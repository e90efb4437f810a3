"""The desk: commands as strings, and their answers as strings."""

from errorplaces.errors import NoCommand, NoKinds
from errorplaces.kinds import Kinds
from errorplaces.plain import is_name
from errorplaces.reading import names_in, number_in, stack_in, tree_in, words_in
from errorplaces.running import handled
from errorplaces.scopes import Scopes
from errorplaces.tables import Table
from errorplaces.texts import show_template, show_tree

# What the words behind the first one are. Behind these, some commands have a stack, which may be no word at all.
SHAPES = {
    "open": ("name",), "under": ("number", "name"), "set": ("number",), "raise": ("number", "names"),
    "close": ("number",), "place": ("number",), "destiny": ("number",), "handle": ("tree",), "row": ("names",),
}
WITH_STACK = ("open", "under", "set", "handle", "row")


class Desk:
    """A table of kinds and scopes of these kinds, or neither. Commands make, change and ask them."""

    def __init__(self):
        self._kinds = None
        self._scopes = None

    def say(self, command):
        """Do what a command says, and return the answer. The command is any value."""
        words = words_in(command)
        told = _told(words) if words else None
        if told is None:
            raise NoCommand(command)
        if words[0] == "kinds":
            return self._begin_anew(told)
        if self._kinds is None:
            raise NoKinds()
        if words[0] == "handle":
            tree, stack = told
            return _tree_text(handled(self._kinds, stack, tree))
        if words[0] == "row":
            names, stack = told
            return _row_text(Table(self._kinds, *stack).row(names))
        return _answer(self._scopes, words[0], told)

    def _begin_anew(self, rows):
        self._kinds = Kinds.of(rows)
        self._scopes = Scopes(self._kinds)
        return "ok"


def _told(words):
    """Return the list of what the words behind the first one write, None if this is no command."""
    word, *rest = words
    if word == "kinds":
        found = [_row_in(text) for text in rest]
        return None if not found or None in found else found
    if word not in SHAPES:
        return None
    shapes = SHAPES[word]
    many = len(shapes)
    if len(rest) < many or (len(rest) > many and word not in WITH_STACK):
        return None
    found = [_value_in(text, shape) for text, shape in zip(rest, shapes)]
    if word in WITH_STACK:
        found.append(stack_in(rest[many:]))
    return None if None in found else found


def _row_in(text):
    name, sign, bases = text.partition("<")
    names = names_in(bases) if sign else ()
    return (name, names) if is_name(name) and names is not None else None


def _value_in(text, shape):
    if shape == "number":
        return number_in(text)
    if shape == "names":
        return names_in(text)
    if shape == "tree":
        return tree_in(text)
    return text if is_name(text) else None


def _answer(scopes, word, told):
    if word == "open":
        message, stack = told
        return str(scopes.begin(message, *stack))
    if word == "under":
        parent, message, stack = told
        return str(scopes.begin(message, *stack, parent=parent))
    if word == "set":
        scope, stack = told
        scopes.set_stack(scope, *stack)
        return "ok"
    if word == "raise":
        scope, names = told
        return " ".join([str(number) for number in scopes.raise_in(scope, *names)])
    number = told[0]
    if word == "close":
        return _tree_text(scopes.close(number))
    return _words_of(scopes.place_of(number) if word == "place" else scopes.destiny(number))


def _tree_text(outcome):
    return "-" if outcome is None else show_tree(outcome)


def _row_text(row):
    return "-" if row is None else show_template(row)


def _words_of(where):
    """Return the words of a place or a destiny. What stands behind the number of the scope are indices."""
    word, scope, *further = where
    return " ".join([word, str(scope), *[".".join([str(index) for index in indices]) for indices in further]])
