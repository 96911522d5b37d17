import unittest

from almostall.formulas import depth_of, free_names, names_of, parts_of
from samples import FORMULAS, made_formulas, simple_formulas

NAMES = "xyzw"


def sorted_names(found):
    return tuple(sorted(found, key=NAMES.index))


def free_by_rule(formula):
    """Point 8 word by word, over sets."""
    word, *rest = formula
    if word in ("tied", "same", "marked"):
        return set(rest)
    if word in ("some", "all"):
        return free_by_rule(rest[1]) - {rest[0]}
    return set().union(*[free_by_rule(inner) for inner in rest])


def names_by_rule(formula):
    return {formula} if isinstance(formula, str) else set().union(*[names_by_rule(each) for each in formula[1:]])


def depth_by_rule(formula):
    within = [depth_by_rule(inner) for inner in formula[1:] if isinstance(inner, tuple)]
    return max(within, default=0) + (formula[0] in ("some", "all"))


def parts_by_rule(formula):
    return 1 + sum([parts_by_rule(inner) for inner in formula[1:] if isinstance(inner, tuple)])


def nested(word, name, times, inmost):
    formula = inmost
    for time in range(times):
        formula = (word, name, formula) if name else (word, formula)
    return formula


def balanced(leaves):
    """An or of so many leaves, as flat as can be."""
    if leaves == 1:
        return ("tied", "x", "w")
    return ("or", balanced(leaves // 2), balanced(leaves - leaves // 2))


class FreeNames(unittest.TestCase):
    def told(self, formula, names):
        self.assertEqual(free_names(formula), names)
        self.assertIs(type(free_names(formula)), tuple)

    def test_simple_ones(self):
        self.told(("tied", "x", "y"), ("x", "y"))
        self.told(("same", "w", "z"), ("z", "w"))
        self.told(("marked", "z"), ("z",))

    def test_each_once(self):
        self.told(("tied", "y", "y"), ("y",))
        self.told(("and", ("tied", "y", "x"), ("tied", "x", "y")), ("x", "y"))

    def test_in_the_order_of_names(self):
        self.told(("or", ("tied", "w", "z"), ("same", "y", "x")), ("x", "y", "z", "w"))
        self.told(("and", ("marked", "w"), ("marked", "x")), ("x", "w"))

    def test_not_and_or(self):
        self.told(("not", ("tied", "z", "y")), ("y", "z"))
        self.told(("and", ("marked", "z"), ("not", ("marked", "y"))), ("y", "z"))
        self.told(("or", ("marked", "w"), ("marked", "w")), ("w",))

    def test_some_and_all_bind_their_name(self):
        for word in ("some", "all"):
            self.told((word, "x", ("tied", "x", "y")), ("y",))
            self.told((word, "y", ("tied", "y", "y")), ())
            self.told((word, "z", ("tied", "x", "y")), ("x", "y"))

    def test_bound_here_and_free_there(self):
        bound = ("some", "x", ("marked", "x"))
        self.told(("and", bound, ("marked", "x")), ("x",))
        self.told(("and", ("marked", "x"), bound), ("x",))
        self.told(("some", "y", ("or", ("all", "x", ("tied", "x", "y")), ("same", "x", "y"))), ("x",))

    def test_bound_twice(self):
        self.told(("some", "x", ("all", "x", ("tied", "x", "w"))), ("w",))
        self.told(("some", "x", ("and", ("all", "x", ("marked", "x")), ("marked", "x"))), ())

    def test_by_the_rule(self):
        for formula in FORMULAS + simple_formulas() + made_formulas(300, 60):
            self.told(formula, sorted_names(free_by_rule(formula)))


class NamesOf(unittest.TestCase):
    def told(self, formula, names):
        self.assertEqual(names_of(formula), names)
        self.assertIs(type(names_of(formula)), tuple)

    def test_simple_ones(self):
        self.told(("tied", "z", "x"), ("x", "z"))
        self.told(("same", "w", "w"), ("w",))
        self.told(("marked", "y"), ("y",))

    def test_those_behind_some_and_all_too(self):
        self.told(("some", "x", ("marked", "y")), ("x", "y"))
        self.told(("all", "w", ("some", "x", ("tied", "x", "x"))), ("x", "w"))
        self.told(("not", ("all", "z", ("marked", "z"))), ("z",))

    def test_by_the_rule(self):
        for formula in FORMULAS + simple_formulas() + made_formulas(300, 60):
            self.told(formula, sorted_names(names_by_rule(formula)))


class DepthOf(unittest.TestCase):
    def test_without_some_and_all(self):
        for formula in simple_formulas():
            self.assertEqual(depth_of(formula), 0)
            self.assertEqual(depth_of(("not", ("and", formula, ("not", formula)))), 0)

    def test_within_one_another(self):
        self.assertEqual(depth_of(("some", "x", ("marked", "x"))), 1)
        self.assertEqual(depth_of(("all", "x", ("not", ("some", "x", ("marked", "x"))))), 2)

    def test_side_by_side_the_greater_one_counts(self):
        one = ("some", "x", ("marked", "x"))
        two = ("all", "y", ("some", "x", ("tied", "x", "y")))
        for word in ("and", "or"):
            self.assertEqual(depth_of((word, one, one)), 1)
            self.assertEqual(depth_of((word, one, two)), 2)
            self.assertEqual(depth_of((word, two, one)), 2)
        self.assertEqual(depth_of(("some", "z", ("or", two, one))), 3)

    def test_by_the_rule(self):
        for formula in FORMULAS + made_formulas(300, 60):
            self.assertEqual(depth_of(formula), depth_by_rule(formula))


class PartsOf(unittest.TestCase):
    def test_simple_ones_are_one_part(self):
        for formula in simple_formulas():
            self.assertEqual(parts_of(formula), 1)

    def test_itself_among_them(self):
        self.assertEqual(parts_of(("not", ("marked", "x"))), 2)
        self.assertEqual(parts_of(("some", "x", ("marked", "x"))), 2)
        self.assertEqual(parts_of(("all", "x", ("not", ("marked", "x")))), 3)

    def test_each_as_often_as_it_stands(self):
        twice = ("tied", "x", "y")
        self.assertEqual(parts_of(("and", twice, twice)), 3)
        self.assertEqual(parts_of(("or", ("and", twice, twice), ("and", twice, twice))), 7)

    def test_by_the_rule(self):
        for formula in FORMULAS + made_formulas(300, 60):
            self.assertEqual(parts_of(formula), parts_by_rule(formula))


class AtTheBounds(unittest.TestCase):
    def test_within_twenty_others(self):
        formula = nested("some", "x", 20, ("tied", "x", "y"))
        self.assertEqual(free_names(formula), ("y",))
        self.assertEqual(names_of(formula), ("x", "y"))
        self.assertEqual(depth_of(formula), 20)
        self.assertEqual(parts_of(formula), 21)

    def test_about_sixty_parts(self):
        self.assertEqual(parts_of(balanced(30)), 59)
        self.assertEqual(parts_of(("not", balanced(30))), 60)
        self.assertEqual(free_names(balanced(30)), ("x", "w"))
        self.assertEqual(depth_of(balanced(30)), 0)

    def test_far_beyond(self):
        # Formulas that were told may be handed in again, of whatever size.
        formula = nested("not", None, 5000, ("all", "z", ("tied", "z", "w")))
        self.assertEqual(free_names(formula), ("w",))
        self.assertEqual(names_of(formula), ("z", "w"))
        self.assertEqual(depth_of(formula), 1)
        self.assertEqual(parts_of(formula), 5002)


if __name__ == "__main__":
    unittest.main()
