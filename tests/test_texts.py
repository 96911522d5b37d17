import unittest

from almostall.errors import NoText
from almostall.texts import read, written
from samples import FORMULAS, NAMES, made_formulas, simple_formulas

# Each text beside its formula, one for each kind and some that have several.
PAIRS = [
    ("tied(x, y)", ("tied", "x", "y")),
    ("tied(w, w)", ("tied", "w", "w")),
    ("same(z, x)", ("same", "z", "x")),
    ("marked(y)", ("marked", "y")),
    ("not marked(z)", ("not", ("marked", "z"))),
    ("not not same(x, x)", ("not", ("not", ("same", "x", "x")))),
    ("(marked(x) and marked(y))", ("and", ("marked", "x"), ("marked", "y"))),
    ("(marked(x) or tied(y, z))", ("or", ("marked", "x"), ("tied", "y", "z"))),
    ("some w marked(w)", ("some", "w", ("marked", "w"))),
    ("all y not tied(y, x)", ("all", "y", ("not", ("tied", "y", "x")))),
    ("not (some x marked(x) or all z (marked(z) and same(z, w)))",
     ("not", ("or", ("some", "x", ("marked", "x")), ("all", "z", ("and", ("marked", "z"), ("same", "z", "w")))))),
    ("some x (tied(x, y) and not all y same(x, y))",
     ("some", "x", ("and", ("tied", "x", "y"), ("not", ("all", "y", ("same", "x", "y")))))),
    ("((marked(x) or marked(y)) and (marked(z) or marked(w)))",
     ("and", ("or", ("marked", "x"), ("marked", "y")), ("or", ("marked", "z"), ("marked", "w")))),
]

SIGNS = [chr(number) for number in range(32, 127)]

# Point 9 as rules: what stands for a formula (F) and for a name (N), sign by sign.
RULES = {
    "F": ["tied(N, N)", "same(N, N)", "marked(N)", "not F", "(F and F)", "(F or F)", "some N F", "all N F"],
    "N": ["x", "y", "z", "w"],
}


def onward(states, sign):
    """What may still be due behind a sign, given all that may be due ahead of it."""
    waiting, found = list(states), set()
    while waiting:
        due = waiting.pop()
        if due[:1] in ("F", "N"):
            waiting.extend([rule + due[1:] for rule in RULES[due[0]]])
        elif due[:1] == sign:
            found.add(due[1:])
    return found


def longest_beginning(text):
    """(None) for a formula's text, else how many signs of it begin one: each way tried at once."""
    states = {"F"}
    for at, sign in enumerate(text):
        states = onward(states, sign)
        if not states:
            return at
    return None if "" in states else len(text)


def nested_text(times, inmost):
    return "(" * times + inmost + f" and {inmost})" * times


class Writing(unittest.TestCase):
    def test_each_kind(self):
        for text, formula in PAIRS:
            with self.subTest(text=text):
                self.assertEqual(written(formula), text)

    def test_all_simple_ones(self):
        for a in NAMES:
            self.assertEqual(written(("marked", a)), f"marked({a})")
            for b in NAMES:
                self.assertEqual(written(("tied", a, b)), f"tied({a}, {b})")
                self.assertEqual(written(("same", a, b)), f"same({a}, {b})")


class Reading(unittest.TestCase):
    def test_each_kind(self):
        for text, formula in PAIRS:
            with self.subTest(text=text):
                self.assertEqual(read(text), formula)
                self.assertIs(type(read(text)), tuple)

    def test_what_is_written_is_read_back(self):
        for formula in FORMULAS + simple_formulas() + made_formulas(400, 60):
            self.assertEqual(read(written(formula)), formula)

    def test_what_is_read_is_written_back(self):
        for formula in made_formulas(50, 60, seed=8):
            text = written(formula)
            self.assertEqual(written(read(text)), text)
            self.assertIsNone(longest_beginning(text))


class Refusing(unittest.TestCase):
    def refused(self, text):
        with self.assertRaises(NoText) as caught:
            read(text)
        return caught.exception.at

    def test_the_empty_text(self):
        self.assertEqual(self.refused(""), 0)

    def test_a_text_cut_off_at_each_sign(self):
        for text, _ in PAIRS:
            for at in range(len(text)):
                with self.subTest(text=text[:at]):
                    self.assertEqual(self.refused(text[:at]), at)

    def test_a_sign_too_many(self):
        for text, _ in PAIRS:
            for sign in SIGNS:
                self.assertEqual(self.refused(text + sign), len(text))

    def test_a_second_formula_behind_a_whole_one(self):
        for text, _ in PAIRS:
            self.assertEqual(self.refused(text + text), len(text))
            self.assertEqual(self.refused(f"{text} {text}"), len(text))
            self.assertEqual(self.refused(f"{text} and {text}"), len(text))
            self.assertEqual(self.refused(f"{text} or {text})"), len(text))

    def test_blanks_where_none_belong(self):
        for text, at in (
            (" tied(x, y)", 0), ("tied (x, y)", 4), ("tied( x, y)", 5), ("tied(x , y)", 6), ("tied(x,  y)", 8),
            ("tied(x, y )", 9), ("tied(x, y) ", 10), ("marked(x )", 8), ("not  marked(x)", 4), ("some  x marked(x)", 5),
            ("some x  marked(x)", 7), ("all y  marked(x)", 6), ("( marked(x) and marked(y))", 1),
            ("(marked(x)  and marked(y))", 11), ("(marked(x) and  marked(y))", 15), ("(marked(x) or  marked(y))", 14),
            ("(marked(x) and marked(y) )", 24), ("no t marked(x)", 2),
        ):
            with self.subTest(text=text):
                self.assertEqual(self.refused(text), at)

    def test_blanks_that_are_missing(self):
        for text, at in (
            ("tied(x,y)", 7), ("notmarked(x)", 3), ("somex marked(x)", 4), ("some xmarked(x)", 6),
            ("allx marked(x)", 3), ("(marked(x)and marked(y))", 10), ("(marked(x) andmarked(y))", 14),
            ("(marked(x) ormarked(y))", 13),
        ):
            with self.subTest(text=text):
                self.assertEqual(self.refused(text), at)

    def test_other_words_and_names(self):
        for text, at in (
            ("Tied(x, y)", 0), ("tie(x, y)", 3), ("tied[x, y]", 4), ("tied(a, y)", 5), ("tied(x, v)", 8),
            ("tied(x; y)", 6), ("tied(x)", 6), ("tied(x, y, z)", 9), ("tied(xx, y)", 6), ("marked(x, y)", 8),
            ("marked()", 7), ("sole x marked(x)", 2), ("sime(x, y)", 1), ("so(x)", 2), ("sam e(x, y)", 3),
            ("any x marked(x)", 1), ("al x marked(x)", 2), ("and", 1), ("or", 0), ("x", 0), ("()", 1), (")", 0),
            ("(marked(x))", 10), ("(marked(x) any marked(y))", 13), ("(marked(x) xor marked(y))", 11),
            ("(marked(x) and marked(y) and marked(z))", 24), ("not", 3), ("not ", 4), ("some q marked(q)", 5),
            ("some marked(x)", 5), ("some x y marked(x)", 7), ("all x, marked(x)", 5), ("not and", 5),
            ("\ttied(x, y)", 0), ("tied(x,\ny)", 7), ("tied(x, \u00e9)", 8),
        ):
            with self.subTest(text=text):
                self.assertEqual(self.refused(text), at)

    def agrees(self, text):
        at = longest_beginning(text)
        if at is None:
            self.assertEqual(written(read(text)), text)
        else:
            self.assertEqual(self.refused(text), at, text)

    def test_one_sign_exchanged_put_in_or_left_out(self):
        for text, _ in PAIRS:
            for at in range(len(text) + 1):
                self.agrees(text[:at] + text[at + 1:])
                for sign in SIGNS:
                    self.agrees(text[:at] + sign + text[at:])
                    self.agrees(text[:at] + sign + text[at + 1:])

    def test_two_signs_side_by_side_turned_about(self):
        for text, _ in PAIRS:
            for at in range(len(text) - 1):
                self.agrees(text[:at] + text[at + 1] + text[at] + text[at + 2:])

    def test_two_texts_cut_and_put_together(self):
        for one, _ in PAIRS:
            for two, _ in PAIRS:
                for at in range(0, len(one), 3):
                    self.agrees(one[:at] + two)
                    self.agrees(one[:at] + two[len(two) // 2:])


class AtTheBounds(unittest.TestCase):
    def refused(self, text):
        with self.assertRaises(NoText) as caught:
            read(text)
        return caught.exception.at

    def test_formulas_within_twenty_others(self):
        for word in ("not", "some", "all", "and", "or"):
            formula = ("marked", "w")
            for time in range(20):
                formula = {
                    "not": ("not", formula),
                    "some": ("some", "x", formula),
                    "all": ("all", "y", formula),
                    "and": ("and", formula, ("marked", "x")),
                    "or": ("or", ("marked", "x"), formula),
                }[word]
            self.assertEqual(read(written(formula)), formula)

    def test_formulas_of_sixty_parts(self):
        for formula in made_formulas(40, 60, seed=9):
            self.assertEqual(read(written(formula)), formula)

    def test_texts_within_thirty_brackets_and_words(self):
        for text in ("not " * 30 + "marked(x)", "some x " * 30 + "marked(x)", "all z " * 30 + "marked(x)",
                     nested_text(30, "marked(x)")):
            self.assertEqual(written(read(text)), text)
            self.assertEqual(self.refused(text + ")"), len(text))
            self.assertEqual(self.refused(text[:-1]), len(text) - 1)
            self.assertEqual(self.refused(text[:-1] + "]"), len(text) - 1)

    def test_texts_of_eight_hundred_signs(self):
        text = "not " * 197 + "tied(x, y)"
        self.assertEqual(written(read(text)), text)
        self.assertEqual(self.refused("not " * 200), 800)
        self.assertEqual(self.refused("(" * 800), 800)
        self.assertEqual(self.refused("?" * 800), 0)

    def test_far_beyond(self):
        text = "not " * 5000 + "tied(x, y)"
        self.assertEqual(written(read(text)), text)
        self.assertEqual(self.refused(text + " "), len(text))


if __name__ == "__main__":
    unittest.main()
