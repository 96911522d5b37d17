"""Formulas and webs that several tests look at."""

import itertools
import random

from almostall.webs import Web

NAMES = ("x", "y", "z", "w")

# One of each kind, and what the kinds do when they stand within one another.
FORMULAS = [
    ("tied", "x", "y"),
    ("tied", "w", "w"),
    ("same", "z", "x"),
    ("marked", "w"),
    ("not", ("tied", "y", "z")),
    ("not", ("not", ("marked", "x"))),
    ("and", ("tied", "x", "y"), ("same", "y", "z")),
    ("or", ("marked", "z"), ("tied", "y", "y")),
    ("or", ("and", ("tied", "x", "y"), ("marked", "x")), ("or", ("same", "x", "w"), ("tied", "w", "z"))),
    ("some", "x", ("tied", "x", "y")),
    ("all", "w", ("same", "w", "w")),
    ("some", "z", ("all", "z", ("not", ("tied", "z", "x")))),
    ("some", "x", ("and", ("tied", "x", "y"), ("not", ("all", "y", ("same", "x", "y"))))),
    ("and", ("some", "x", ("marked", "x")), ("all", "y", ("tied", "x", "y"))),
    ("not", ("or", ("all", "x", ("some", "y", ("tied", "x", "y"))), ("same", "y", "x"))),
]


def simple_formulas():
    pairs = list(itertools.product(NAMES, NAMES))
    return [(word, a, b) for word in ("tied", "same") for a, b in pairs] + [("marked", a) for a in NAMES]


def made_formula(dice, parts):
    """A formula of just so many parts, as the dice fall."""
    if parts == 1:
        return dice.choice(simple_formulas())
    if parts == 2 or dice.random() < 0.5:
        inner = made_formula(dice, parts - 1)
        word = dice.choice(("not", "some", "all"))
        return ("not", inner) if word == "not" else (word, dice.choice(NAMES), inner)
    left = dice.randint(1, parts - 2)
    return (dice.choice(("and", "or")), made_formula(dice, left), made_formula(dice, parts - 1 - left))


def made_formulas(many, parts, seed=7):
    dice = random.Random(seed)
    return [made_formula(dice, dice.randint(1, parts)) for times in range(many)]


def made_web(dice, count):
    pairs = list(itertools.combinations(range(count), 2))
    return Web(count, [pair for pair in pairs if dice.random() < 0.5])


def all_webs(count):
    pairs = list(itertools.combinations(range(count), 2))
    for many in range(len(pairs) + 1):
        for ties in itertools.combinations(pairs, many):
            yield Web(count, list(ties))
