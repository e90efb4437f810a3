"""The errors of the package. Each one keeps a copy of the value that it is about."""

from errorplaces.plain import copied


class NoName(ValueError):
    """This is not a name, or a name that stands before."""

    def __init__(self, name):
        self.name = copied(name)


class NoBases(ValueError):
    """These are not bases: different kinds that stand before."""

    def __init__(self, bases):
        self.bases = copied(bases)


class NoRows(TypeError):
    """This is not a list or tuple of pairs of a name and bases."""

    def __init__(self, value):
        self.value = copied(value)


class NoKind(KeyError):
    """This is not the name of a kind."""

    def __init__(self, name):
        self.name = copied(name)


class NoTree(TypeError):
    """This is not a tree of these kinds."""

    def __init__(self, tree):
        self.tree = copied(tree)


class NoStack(TypeError):
    """This is not a stack of these kinds."""

    def __init__(self, stack):
        self.stack = copied(stack)


class NoTemplate(TypeError):
    """This is not a template of these kinds."""

    def __init__(self, template):
        self.template = copied(template)


class NoNumber(ArithmeticError):
    """This is not an integer from 0."""

    def __init__(self, number):
        self.number = copied(number)


class NoPlace(IndexError):
    """This is not the place of a leaf."""

    def __init__(self, place):
        self.place = copied(place)


class NoNames(ValueError):
    """These are not names of kinds for a row."""

    def __init__(self, names):
        self.names = copied(names)


class Unlike(RuntimeError):
    """The tables have unequal kinds."""


class NoMessage(ValueError):
    """This is not a message of a scope."""

    def __init__(self, message):
        self.message = copied(message)


class NoScope(LookupError):
    """This is not the number of a scope."""

    def __init__(self, scope):
        self.scope = copied(scope)


class Closed(RuntimeError):
    """This scope is closed."""

    def __init__(self, scope):
        self.scope = copied(scope)


class NoError(LookupError):
    """This is not the number of an error."""

    def __init__(self, number):
        self.number = copied(number)


class TooMany(OverflowError):
    """There are more than this limit allows."""

    def __init__(self, limit):
        self.limit = copied(limit)


class NoText(ValueError):
    """This is not the text of what was to be read."""

    def __init__(self, text):
        self.text = copied(text)


class NoCommand(ValueError):
    """This is not a command."""

    def __init__(self, command):
        self.command = copied(command)


class NoKinds(LookupError):
    """There is no table of kinds."""
