"""Formulas written as texts, and read from texts."""

from almostall.errors import NoText
from almostall.formulas import BINDING_WORDS, JOINING_WORDS, NAMES, PAIR_WORDS

# At each point of a formula's text one of a few such beginnings is due, none of which begins
# another one. So the first sign that fits none of them is where the text stops being one.
STARTS = ("tied(", "same(", "marked(", "not ", "(", "some ", "all ")
SIMPLE_STARTS = ("tied(", "same(", "marked(")
JOINTS = (" and ", " or ")


def written(formula):
    signs = []
    waiting = [formula]
    while waiting:
        piece = waiting.pop()
        if isinstance(piece, str):
            signs.append(piece)
        else:
            waiting.extend(pieces_of(piece)[::-1])
    return "".join(signs)


def pieces_of(formula):
    """The texts and formulas, in order, that a formula's text is put together from."""
    word = formula[0]
    if word in PAIR_WORDS:
        return [f"{word}({formula[1]}, {formula[2]})"]
    if word == "marked":
        return [f"marked({formula[1]})"]
    if word in JOINING_WORDS:
        return ["(", formula[1], f" {word} ", formula[2], ")"]
    if word in BINDING_WORDS:
        return [f"{word} {formula[1]} ", formula[2]]
    return ["not ", formula[1]]


def signs_alike(text, at, choice):
    return max([many for many in range(len(choice)) if text.startswith(choice[:many], at)])


class Reader:
    """A text, and how many of its signs are read."""

    def __init__(self, text):
        self.text = text
        self.at = 0

    def take(self, choices):
        """Read the one of the choices that comes next."""
        for choice in choices:
            if self.text.startswith(choice, self.at):
                self.at += len(choice)
                return choice
        raise NoText(self.at + max([signs_alike(self.text, self.at, choice) for choice in choices]))

    def finish(self):
        if self.at < len(self.text):
            raise NoText(self.at)


def read(text):
    reader = Reader(text)
    around = []
    formula = None
    while formula is None:
        start = reader.take(STARTS)
        if start in SIMPLE_STARTS:
            formula = closed(reader, around, simple_formula(reader, start))
        else:
            around.append(opened(reader, start))
    reader.finish()
    return formula


def simple_formula(reader, start):
    word = start[:-1]
    first = reader.take(NAMES)
    if word in PAIR_WORDS:
        reader.take((", ",))
        second = reader.take(NAMES)
        reader.take((")",))
        return (word, first, second)
    reader.take((")",))
    return (word, first)


def opened(reader, start):
    """What a formula's tuple has ahead of its last formula, or ("(",) where that isn't known yet."""
    word = start.strip()
    if word in BINDING_WORDS:
        name = reader.take(NAMES)
        reader.take((" ",))
        return (word, name)
    return (word,)


def closed(reader, around, formula):
    """Close what ends with this formula: the whole one, or None where one more is due first."""
    while around:
        opening = around.pop()
        if opening[0] == "(":
            joint = reader.take(JOINTS)
            around.append((joint.strip(), formula))
            return None
        if opening[0] in JOINING_WORDS:
            reader.take((")",))
        formula = (*opening, formula)
    return formula
