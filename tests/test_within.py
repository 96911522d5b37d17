import copy
import itertools
import random
import unittest

from almostall.errors import NoCount, NoWay
from almostall.formulas import free_names, names_of
from almostall.nearly import nearly
from almostall.plain import plain_formula, plain_ways
from almostall.ready import square_web, told_web
from almostall.texts import read
from almostall.truth import holds, table
from almostall.within import shown_at, within
from by_rule import plain_ways_by_rule, way_by_rule, ways_by_rule
from samples import (FORMULAS, NAMES, NO_COUNTS, Refusing, made_formula, made_formulas, made_sentence,
                     nested_sentence, soon)

TOLD = told_web(3)


def told_of(one, other):
    return within(read(one), read(other))


def names_of_both(one, other):
    return tuple(name for name in NAMES if name in free_names(one) + free_names(other))


class Within(Refusing):
    def test_formulas_that_lie_within_another_one(self):
        for one, other in (
            ("tied(x, y)", "tied(y, x)"),
            ("tied(x, y)", "not same(x, y)"),
            ("(tied(x, y) and tied(y, z))", "tied(x, y)"),
            ("tied(x, y)", "(tied(x, y) or marked(w))"),
            ("same(x, y)", "some z (tied(z, x) and tied(z, y))"),
            ("not same(x, y)", "some z (tied(z, x) and not tied(z, y))"),
            ("some x tied(x, x)", "same(x, y)"),
            ("marked(x)", "tied(x, x)"),
            ("same(w, w)", "all x some y tied(x, y)"),
            ("some x same(x, x)", "all x some y tied(x, y)"),
            ("all x all y same(x, y)", "some x marked(x)"),
        ):
            self.assertIsNone(told_of(one, other), (one, other))

    def test_the_names_and_the_first_way_by_which_it_does_not(self):
        for one, other, told in (
            ("tied(y, x)", "same(x, y)", (("x", "y"), "t")),
            ("not same(x, y)", "tied(x, y)", (("x", "y"), "o")),
            ("same(x, x)", "tied(x, y)", (("x", "y"), "o")),
            ("same(x, x)", "not same(x, y)", (("x", "y"), "s")),
            ("tied(x, y)", "tied(x, z)", (("x", "y", "z"), "too")),
            ("tied(w, y)", "tied(w, z)", (("y", "z", "w"), "oto")),
            ("tied(x, y)", "same(z, w)", (("x", "y", "z", "w"), "tooooo")),
            ("same(z, z)", "marked(z)", (("z",), "")),
            ("same(w, w)", "some x tied(x, x)", (("w",), "")),
            ("all x some y tied(x, y)", "some x tied(x, x)", ((), "")),
            ("some x same(x, x)", "all x marked(x)", ((), "")),
        ):
            self.assertEqual(told_of(one, other), told, (one, other))

    def test_kinds_of_values(self):
        names, way = told_of("tied(x, y)", "same(x, y)")
        self.assertIs(type(told_of("tied(x, y)", "same(x, y)")), tuple)
        self.assertIs(type(names), tuple)
        self.assertIs(type(way), str)

    def test_free_names_of_the_one_that_are_bound_in_the_other(self):
        self.assertEqual(told_of("same(x, x)", "all x tied(x, y)"), (("x", "y"), "o"))
        self.assertIsNone(told_of("tied(x, y)", "some x tied(x, y)"))
        self.assertIsNone(told_of("all x (tied(x, y) or same(x, y))", "tied(x, z)"))

    def first_gap(self, one, other):
        """Way by way of all free names, each formula by places taken one for each way on."""
        names = names_of_both(one, other)
        holding, lacking = plain_ways_by_rule(one, names), plain_ways_by_rule(other, names)
        gaps = [way for way in ways_by_rule(len(names)) if way in holding and way not in lacking]
        return (names, gaps[0]) if gaps else None

    def test_any_two_of_some_formulas(self):
        for one, other in itertools.product(FORMULAS, repeat=2):
            self.assertEqual(within(one, other), self.first_gap(one, other), (one, other))

    def test_made_formulas(self):
        formulas = made_formulas(80, 6, seed=81)
        for one, other in zip(formulas, formulas[1:]):
            self.assertEqual(within(one, other), self.first_gap(one, other), (one, other))

    def test_what_is_told_is_seen_in_the_told_web(self):
        dice = random.Random(82)
        lying = 0
        for time in range(250):
            one, other = made_formula(dice, dice.randint(1, 12)), made_formula(dice, dice.randint(1, 12))
            told = within(one, other)
            if told is None or len(told[0]) == 0:
                continue
            names, way = told
            lying += 1
            laid = dict(zip(names, shown_at(way, len(names))))
            self.assertTrue(holds(TOLD, one, laid), (one, other))
            self.assertFalse(holds(TOLD, other, laid), (one, other))
        self.assertGreater(lying, 100)

    def test_no_way_ahead_of_it_is_one_in_the_told_web(self):
        for one, other in zip(made_formulas(60, 8, seed=83), made_formulas(60, 8, seed=84)):
            told = within(one, other)
            names = names_of_both(one, other)
            if not names:
                continue
            for way in ways_by_rule(len(names)):
                laid = dict(zip(names, shown_at(way, len(names))))
                gap = holds(TOLD, one, laid) and not holds(TOLD, other, laid)
                self.assertEqual(gap, told is not None and way == told[1])
                if gap:
                    break

    def test_none_in_all_places_of_ready_webs(self):
        pairs = [pair for pair in itertools.product(FORMULAS, repeat=2) if len(names_of_both(*pair)) == 2]
        for web in (TOLD, square_web(37)):
            for one, other in pairs:
                gaps = table(web, ("and", one, ("not", other)))
                told = within(one, other)
                self.assertEqual(gaps == [], told is None)
                if told:
                    self.assertIn(told[1], {way_by_rule(web, places) for places in gaps})

    def test_sentences_by_what_nearly_all_have(self):
        dice = random.Random(85)
        for time in range(60):
            one, other = made_sentence(dice, dice.randint(1, 10)), made_sentence(dice, dice.randint(1, 10))
            lies = not (nearly(one) == "all" and nearly(other) == "none")
            self.assertEqual(within(one, other), None if lies else ((), ""))

    def test_each_formula_and_its_plain_one_lie_within_one_another(self):
        for formula in FORMULAS + made_formulas(60, 10, seed=86):
            plain = plain_formula(free_names(formula), plain_ways(formula))
            self.assertIsNone(within(formula, plain), formula)
            self.assertIsNone(within(plain, formula), formula)

    def test_deep_ones_and_those_of_many_parts(self):
        dice = random.Random(87)
        with soon(self):
            for times in range(15, 20):
                one, other = nested_sentence(dice, times)[2], nested_sentence(dice, times)[2]
                self.assertLessEqual(len(names_of(one)), 4)
                told = within(one, other)
                self.assertIs(within(("and", one, other), other), None)
                if told:
                    laid = dict(zip(told[0], shown_at(told[1], len(told[0])))) if told[0] else {}
                    self.assertTrue(holds(TOLD, ("and", one, ("not", other)), laid))
            for time in range(40):
                self.assertIsNone(within(made_formula(dice, 58), ("not", ("marked", "x"))))

    def test_nothing_handed_in_is_changed_and_the_same_is_told_again(self):
        one, other = copy.deepcopy(FORMULAS[8]), copy.deepcopy(FORMULAS[0])
        told = within(one, other)
        self.assertEqual(within(one, other), told)
        self.assertEqual((one, other), (FORMULAS[8], FORMULAS[0]))


class ShownAt(Refusing):
    def test_the_first_places_that_stand_so(self):
        for many in (1, 2, 3):
            first = {}
            for places in itertools.product(range(29), repeat=many):
                first.setdefault(way_by_rule(TOLD, places), places)
            self.assertEqual(sorted(first), ways_by_rule(many))
            for way in first:
                self.assertEqual(shown_at(way, many), first[way], way)

    def test_the_first_places_of_four_names(self):
        # Each way is found with 0 as its first place, so no other first place comes ahead.
        signs = {(u, v): way_by_rule(TOLD, (u, v)) for u in range(29) for v in range(29)}
        first = {}
        for v, w, z in itertools.product(range(29), repeat=3):
            way = signs[0, v] + signs[0, w] + signs[0, z] + signs[v, w] + signs[v, z] + signs[w, z]
            first.setdefault(way, (0, v, w, z))
        self.assertEqual(len(first), 127)
        for way in first:
            self.assertEqual(shown_at(way, 4), first[way], way)

    def test_numbers_by_hand(self):
        self.assertEqual(shown_at("", 1), (0,))
        self.assertEqual(shown_at("s", 2), (0, 0))
        self.assertEqual(shown_at("t", 2), (0, 1))
        self.assertEqual(shown_at("o", 2), (0, 2))
        self.assertEqual(shown_at("ssssss", 4), (0, 0, 0, 0))
        self.assertIs(type(shown_at("t", 2)), tuple)

    def test_numbers_that_are_refused(self):
        for many in (0, 5, *NO_COUNTS):
            for way in ("", "t", "tttttt", "x"):
                self.refused(NoCount, shown_at, way, many)

    def test_what_is_no_way_of_so_many(self):
        for way, many in (("t", 1), ("", 2), ("x", 2), ("tt", 2), ("T", 2), ("t", 3), ("sto", 3), ("tsst", 3),
                          ("tttttttttt", 4), ("ssssst", 4), ("", 4), ("ttt", 4), ("tttttt", 3), (" ", 1)):
            self.assertEqual(self.refused(NoWay, shown_at, way, many).way, way)


if __name__ == "__main__":
    unittest.main()
