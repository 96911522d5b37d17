"""Formulas and webs that several tests look at."""

import contextlib
import itertools
import random
import time
import unittest

from almostall.ladders import Ladder
from almostall.marked import MarkedWeb
from almostall.webs import Web

NAMES = ("x", "y", "z", "w")
FORTY_FIGURES = 10 ** 39
# Where a count is due none of these is one.
NO_COUNTS = (-1, -FORTY_FIGURES, FORTY_FIGURES, True, False)

# One of each kind, and what the kinds do when they stand within one another.
FORMULAS = [
    ("tied", "x", "y"),
    ("tied", "w", "w"),
    ("same", "z", "x"),
    ("marked", "w"),
    ("not", ("tied", "y", "z")),
    ("not", ("not", ("marked", "x"))),
    ("and", ("tied", "x", "y"), ("same", "y", "z")),
    ("or", ("marked", "z"), ("tied", "y", "y")),
    ("or", ("and", ("tied", "x", "y"), ("marked", "x")), ("or", ("same", "x", "w"), ("tied", "w", "z"))),
    ("some", "x", ("tied", "x", "y")),
    ("all", "w", ("same", "w", "w")),
    ("some", "z", ("all", "z", ("not", ("tied", "z", "x")))),
    ("some", "x", ("and", ("tied", "x", "y"), ("not", ("all", "y", ("same", "x", "y"))))),
    ("and", ("some", "x", ("marked", "x")), ("all", "y", ("tied", "x", "y"))),
    ("not", ("or", ("all", "x", ("some", "y", ("tied", "x", "y"))), ("same", "y", "x"))),
]


def simple_formulas():
    pairs = list(itertools.product(NAMES, NAMES))
    return [(word, a, b) for word in ("tied", "same") for a, b in pairs] + [("marked", a) for a in NAMES]


def made_formula(dice, parts):
    """A formula of just so many parts, as the dice fall."""
    if parts == 1:
        return dice.choice(simple_formulas())
    if parts == 2 or dice.random() < 0.5:
        inner = made_formula(dice, parts - 1)
        word = dice.choice(("not", "some", "all"))
        return ("not", inner) if word == "not" else (word, dice.choice(NAMES), inner)
    left = dice.randint(1, parts - 2)
    return (dice.choice(("and", "or")), made_formula(dice, left), made_formula(dice, parts - 1 - left))


def made_formulas(many, parts, seed=7):
    dice = random.Random(seed)
    return [made_formula(dice, dice.randint(1, parts)) for times in range(many)]


def made_web(dice, count):
    pairs = list(itertools.combinations(range(count), 2))
    return Web(count, [pair for pair in pairs if dice.random() < 0.5])


def all_webs(count):
    pairs = list(itertools.combinations(range(count), 2))
    for many in range(len(pairs) + 1):
        for ties in itertools.combinations(pairs, many):
            yield Web(count, list(ties))


def made_ladder(dice, count):
    pairs = itertools.combinations(range(count), 2)
    return Ladder(count, [tuple(dice.sample(pair, 2)) for pair in pairs])


def all_ladders(count):
    pairs = list(itertools.combinations(range(count), 2))
    for turns in itertools.product((1, -1), repeat=len(pairs)):
        yield Ladder(count, [pair[::turn] for pair, turn in zip(pairs, turns)])


def made_marked(dice, count):
    return MarkedWeb(count, list(made_web(dice, count).ties), [place for place in range(count) if dice.random() < 0.5])


def all_marked(count):
    for web in all_webs(count):
        for truths in itertools.product((False, True), repeat=count):
            yield MarkedWeb(count, list(web.ties), [place for place in range(count) if truths[place]])


def made_sentence(dice, parts, names=NAMES):
    """A sentence of these names alone, as the dice fall: each name that is left free is bound at last."""
    formula = renamed(made_formula(dice, parts), dict(zip(NAMES, [dice.choice(names) for name in NAMES])))
    for name in dice.sample(names, len(names)):
        formula = (dice.choice(("some", "all")), name, formula)
    return formula


def renamed(formula, names):
    """Each name in the stead of another one, those behind some and all too."""
    return tuple([renamed(each, names) if isinstance(each, tuple) else names.get(each, each) for each in formula])


def nested_sentence(dice, times):
    """Some and all within one another so many times, a formula of all four names inmost."""
    formula = ("or", ("and", ("tied", "x", "y"), ("not", ("tied", "z", "w"))), ("same", "y", "w"))
    for name in (NAMES * times)[:times]:
        formula = (dice.choice(("some", "all")), name, formula)
    return formula


@contextlib.contextmanager
def soon(case, seconds=20):
    """Far more than is needed, far less than going through all places at each some and all."""
    start = time.monotonic()
    yield
    case.assertLess(time.monotonic() - start, seconds)


class Refusing(unittest.TestCase):
    def refused(self, refusal, act, *handed):
        with self.assertRaises(refusal) as caught:
            act(*handed)
        self.assertIs(type(caught.exception), refusal)
        return caught.exception

    def same_share(self, share, expected, *why):
        """A told share has the two numbers of the expected Fraction, which is in lowest terms."""
        self.assertIs(type(share), tuple)
        self.assertEqual([type(number) for number in share], [int, int])
        self.assertEqual(share, (expected.numerator, expected.denominator), why)
