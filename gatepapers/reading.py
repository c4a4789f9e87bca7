"""Texts read to programs."""

from gatepapers.errors import NoText
from gatepapers.words import is_name, words_of

MOST_PARTS = 8
MOST_ROWS = 40
MOST_ROOMS = 8
MOST_HANDED = 8
MOST_EXPRESSIONS = 120
MOST_BRACKETS = 7

# What stands behind the first word of a row, and of an expression in brackets.
ROWS = {
    "in": ("name", "number"),
    "out": ("name", "expression"),
    "wire": ("name", "expression"),
    "memory": ("name", "number", "number", "expression"),
    "rooms": ("name", "names"),
    "go": ("name", "name", "name", "expression"),
    "use": ("name", "name", "expressions"),
}
EXPRESSIONS = {
    "number": ("number", "number"),
    "of": ("name", "name"),
    "at": ("name", "name"),
    "not": ("expression",),
    "and": ("expression", "expression"),
    "or": ("expression", "expression"),
    "xor": ("expression", "expression"),
    "plus": ("expression", "expression"),
    "minus": ("expression", "expression"),
    "same": ("expression", "expression"),
    "less": ("expression", "expression"),
    "join": ("expression", "expression"),
    "if": ("expression", "expression", "expression"),
    "cut": ("expression", "number", "number"),
}


def read(text):
    """The program that a text tells; of anything, refused with NoText."""
    return Reader(words_of(text)).take_program()


class Reader:
    """The words of a text, and how far they have been taken."""

    def __init__(self, words):
        self.words = words
        self.at = 0
        self.expressions = 0
        self.brackets = 0

    def ahead(self):
        """The word that comes next, or None behind the last one."""
        return self.words[self.at] if self.at < len(self.words) else None

    def take(self):
        """The next word, which must be there."""
        word = self.ahead()
        if word is None:
            raise NoText("the text ends too early")
        self.at += 1
        return word

    def take_this(self, wanted):
        """One word, which must be the one wanted."""
        word = self.take()
        if word != wanted:
            raise NoText(f"{word!r} stands where {wanted!r} should")

    def take_program(self):
        """All parts of the text."""
        parts = []
        while self.ahead() is not None:
            parts.append(self.take_part())
        refuse_many(len(parts), 1, MOST_PARTS, "parts")
        return parts

    def take_part(self):
        """One part, a tuple of its name and the list of its rows."""
        self.take_this("part")
        name = self.take_name()
        rows = []
        while self.ahead() != "end":
            rows.append(self.take_row())
        self.take_this("end")
        refuse_many(len(rows), 1, MOST_ROWS, "rows")
        return (name, rows)

    def take_row(self):
        """One row, a tuple of its word and what stands behind it."""
        word = self.take()
        if word not in ROWS:
            raise NoText(f"no row begins with {word!r}")
        return self.take_behind(word, ROWS[word])

    def take_expression(self):
        """One expression, a name or one in brackets."""
        self.expressions += 1
        if self.expressions > MOST_EXPRESSIONS:
            raise NoText(f"a text has at most {MOST_EXPRESSIONS} expressions")
        if self.ahead() != "(":
            return ("name", self.take_name())
        self.take_this("(")
        self.brackets += 1
        if self.brackets > MOST_BRACKETS:
            raise NoText(f"at most {MOST_BRACKETS} brackets stand within one another")
        word = self.take()
        if word not in EXPRESSIONS:
            raise NoText(f"no expression begins with {word!r}")
        expression = self.take_behind(word, EXPRESSIONS[word])
        self.take_this(")")
        self.brackets -= 1
        return expression

    def take_behind(self, word, form):
        """A tuple of a word and the things that its form asks for behind it."""
        things = [word]
        for kind in form:
            things.append(self.take_thing(kind))
        return tuple(things)

    def take_thing(self, kind):
        """One thing of a form."""
        if kind == "name":
            return self.take_name()
        if kind == "number":
            return self.take_number()
        if kind == "names":
            return self.take_names()
        if kind == "expressions":
            return self.take_expressions()
        return self.take_expression()

    def take_name(self):
        """One name."""
        word = self.take()
        if not is_name(word):
            raise NoText(f"{word!r} stands where a name should")
        return word

    def take_number(self):
        """One number."""
        word = self.take()
        if not isinstance(word, int):
            raise NoText(f"{word!r} stands where a number should")
        return word

    def take_names(self):
        """The names of rooms, as many as come."""
        names = []
        while is_name(self.ahead()):
            names.append(self.take_name())
        refuse_many(len(names), 1, MOST_ROOMS, "rooms")
        return tuple(names)

    def take_expressions(self):
        """The expressions of a use, as many as come."""
        expressions = []
        while self.ahead() == "(" or is_name(self.ahead()):
            expressions.append(self.take_expression())
        refuse_many(len(expressions), 0, MOST_HANDED, "expressions in a use")
        return tuple(expressions)


def refuse_many(many, least, most, what):
    """Refuse what there are too few or too many of."""
    if many < least or many > most:
        raise NoText(f"there are {many} {what}, not {least} to {most}")
