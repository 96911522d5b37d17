import copy
import itertools
import math
import random
import unittest
from fractions import Fraction

from almostall.errors import NoCount, NoName, NoPlace, NoSentence, NoTie, NoWant, TooMany
from almostall.formulas import depth_of, free_names, names_of
from almostall.marked import MarkedWeb, marked_bound, marked_nearly, told_marked
from almostall.nearly import nearly
from almostall.ready import met, ready, square_web
from almostall.texts import read
from almostall.truth import holds, table
from almostall.webs import Web
from by_rule import all_signs, holds_by_rule, meeting_places, unmet_wants
from samples import (FORMULAS, FORTY_FIGURES, NAMES, NO_COUNTS, Refusing, all_marked, made_formulas, made_marked,
                     made_sentence, soon)

# 0 - 1 - 2, and 3 by itself; 1 and 3 are marked.
PATH = MarkedWeb(4, [(0, 1), (1, 2)], [3, 1])


def bound_by_rule(n, k):
    """Point 40."""
    if n < k:
        return Fraction(1)
    signs = 2 ** (k + 1)
    return min(Fraction(1), math.comb(n, k) * signs * (1 - Fraction(1, signs)) ** (n - k))


def without(web, place):
    """A web that is ready for one place more, less this place, marked where it was tied to that."""
    others = [other for other in range(web.count) if other != place]
    marks = [at for at, other in enumerate(others) if web.tied(place, other)]
    return MarkedWeb(len(others), list(web.part(others).ties), marks)


class MarkedWebs(Refusing):
    def test_fields(self):
        web = MarkedWeb(4, [(2, 1), (0, 1), (1, 2)], [3, 1, 3, 0])
        self.assertEqual((web.count, web.ties, web.marks), (4, ((0, 1), (1, 2)), (0, 1, 3)))
        self.assertEqual([type(field) for field in (web.count, web.ties, web.marks)], [int, tuple, tuple])

    def test_no_marks_and_all_marks(self):
        self.assertEqual(MarkedWeb(1, [], []).marks, ())
        self.assertEqual(MarkedWeb(9, [], [8, 1, 8]).marks, (1, 8))
        self.assertEqual(MarkedWeb(64, [], list(range(63, -1, -1))).marks, tuple(range(64)))

    def test_no_methods(self):
        methods = [name for name in dir(PATH) if callable(getattr(PATH, name)) and not name.startswith("__")]
        self.assertEqual(methods, [])

    def test_refused_as_a_web(self):
        for count in (0, 65, *NO_COUNTS):
            self.refused(NoCount, MarkedWeb, count, [(9, 9)], [99])
        for number in (3, -1, FORTY_FIGURES):
            self.assertEqual(self.refused(NoPlace, MarkedWeb, 3, [(1, 1), (0, number)], [9]).place, number)
        self.assertEqual(self.refused(NoTie, MarkedWeb, 3, [(0, 1), (2, 2), (1, 1)], [9]).place, 2)

    def test_marks_that_are_no_places(self):
        for number in (3, 4, -1, FORTY_FIGURES, -FORTY_FIGURES):
            self.assertEqual(self.refused(NoPlace, MarkedWeb, 3, [(0, 1)], [0, number, 9]).place, number)
        self.assertIs(self.refused(NoPlace, MarkedWeb, 3, [], [True]).place, True)

    def test_lists_that_are_handed_in(self):
        ties, marks = [(1, 0)], [2, 1, 2]
        web = MarkedWeb(3, ties, marks)
        self.assertEqual((ties, marks), ([(1, 0)], [2, 1, 2]))
        ties.clear()
        marks.append(0)
        self.assertEqual((web.ties, web.marks), (((0, 1),), (1, 2)))
        self.assertEqual(table(web, read("marked(x)")), [(1,), (2,)])


class Truth(Refusing):
    def test_marked(self):
        for place in range(4):
            self.assertIs(holds(PATH, read("marked(x)"), {"x": place}), place in (1, 3))
        self.assertEqual(table(PATH, read("marked(z)")), [(1,), (3,)])
        self.assertEqual(table(PATH, read("not marked(z)")), [(0,), (2,)])

    def test_by_hand(self):
        self.assertTrue(holds(PATH, read("some x marked(x)"), {}))
        self.assertFalse(holds(PATH, read("all x marked(x)"), {}))
        self.assertFalse(holds(PATH, read("some x some y (tied(x, y) and (marked(x) and marked(y)))"), {}))
        self.assertTrue(holds(PATH, read("all x (marked(x) or some y (tied(x, y) and marked(y)))"), {}))
        self.assertEqual(table(PATH, read("(marked(x) and not marked(y))")), [(1, 0), (1, 2), (3, 0), (3, 2)])
        self.assertEqual(table(PATH, read("(marked(y) and tied(x, y))")), [(0, 1), (2, 1)])

    def test_ties_are_those_of_the_web(self):
        for u, v in itertools.product(range(4), repeat=2):
            truth = tuple(sorted((u, v))) in PATH.ties
            self.assertIs(holds(PATH, read("tied(x, y)"), {"x": u, "y": v}), truth)

    def test_some_formulas_in_all_marked_webs_of_at_most_three_places(self):
        for web in [web for count in (1, 2) for web in all_marked(count)] + list(all_marked(3))[::3]:
            for formula in FORMULAS + made_formulas(20, 8, seed=151):
                names = free_names(formula)
                found = [places for places in itertools.product(range(web.count), repeat=len(names))
                         if holds_by_rule(web, formula, dict(zip(names, places)))]
                self.assertEqual(table(web, formula), found, formula)
                for places in found[:2]:
                    self.assertTrue(holds(web, formula, dict(zip(names, places))))

    def test_made_webs(self):
        dice = random.Random(152)
        for formula in made_formulas(200, 9, seed=153):
            web = made_marked(dice, dice.randint(2, 5))
            laid = {name: dice.randrange(web.count) for name in NAMES}
            self.assertIs(holds(web, formula, laid), holds_by_rule(web, formula, laid), formula)

    def test_without_marks_it_is_as_the_web(self):
        dice = random.Random(154)
        for formula in FORMULAS:
            web = made_marked(dice, 4)
            self.assertEqual(table(MarkedWeb(4, list(web.ties), []), formula), table(Web(4, list(web.ties)), formula))

    def test_refusals(self):
        self.assertEqual(self.refused(NoName, holds, PATH, read("(marked(z) or marked(y))"), {"z": 0}).name, "y")
        self.assertEqual(self.refused(NoPlace, holds, PATH, read("marked(x)"), {"x": 4}).place, 4)
        text = "((marked(x) and marked(y)) and marked(z))"
        self.refused(TooMany, table, MarkedWeb(31, [], []), read(text))
        self.assertEqual(len(table(MarkedWeb(30, [], [3, 4]), read(text))), 8)
        text = "((marked(x) and marked(y)) and (marked(z) and marked(w)))"
        self.refused(TooMany, table, MarkedWeb(10, [], []), read(text))
        self.assertEqual(table(MarkedWeb(9, [], [8]), read(text)), [(8, 8, 8, 8)])


class Wants(Refusing):
    def test_met_by_hand(self):
        self.assertEqual(met(PATH, ((), "m")), 1)
        self.assertEqual(met(PATH, ((), "u")), 0)
        self.assertEqual(met(PATH, ((0,), "tm")), 1)
        self.assertIsNone(met(PATH, ((0,), "tu")))
        self.assertEqual(met(PATH, ((1,), "tu")), 0)
        self.assertIsNone(met(PATH, ((1,), "tm")))
        self.assertEqual(met(PATH, ((0, 2), "oom")), 3)
        self.assertIsNone(met(MarkedWeb(3, [], []), ((), "m")))
        self.assertIsNone(met(MarkedWeb(1, [], [0]), ((0,), "om")))

    def test_all_wants_of_all_marked_webs_of_at_most_three_places(self):
        for web in [web for count in (1, 2, 3) for web in all_marked(count)]:
            for many in range(web.count + 1):
                for places in itertools.combinations(range(web.count), many):
                    for signs in all_signs(web, many):
                        least = min(meeting_places(web, places, signs), default=None)
                        self.assertEqual(met(web, (places, signs)), least)

    def test_as_many_places_as_one_likes(self):
        web = MarkedWeb(64, [(63, place) for place in range(0, 63, 2)], [63])
        places = tuple(range(63))
        self.assertEqual(met(web, (places, "to" * 31 + "tm")), 63)
        self.assertIsNone(met(web, (places, "to" * 31 + "tu")))

    def test_the_first_want_that_is_not_met(self):
        dice = random.Random(155)
        webs = [web for count in (1, 2, 3) for web in all_marked(count)]
        webs += [made_marked(dice, count) for count in range(4, 16)] + [told_marked(k) for k in range(3)]
        for web in webs:
            for k in range(3):
                self.assertEqual(ready(web, k), next(iter(unmet_wants(web, k)), None), (web.ties, web.marks, k))

    def test_ready_by_hand(self):
        self.assertEqual(ready(MarkedWeb(3, [], []), 0), ((), "m"))
        self.assertEqual(ready(MarkedWeb(3, [], [0, 1, 2]), 2), ((), "u"))
        self.assertEqual(ready(MarkedWeb(2, [], [0]), 1), ((0,), "om"))
        self.assertEqual(ready(PATH, 1), ((0,), "tu"))
        self.assertIsNone(ready(PATH, 0))

    def test_signs_that_are_none(self):
        for places, signs in (((), ""), ((), "t"), ((), "o"), ((0,), "t"), ((0,), "o"), ((0,), "m"), ((0,), "mt"),
                              ((0,), "tt"), ((0,), "tmm"), ((0, 1), "tm"), ((0, 1), "to"), ((0, 1), "tox"), ((), "M"),
                              ((), "mu"), ((0,), "mm"), ((0,), "xm")):
            self.refused(NoWant, met, PATH, (places, signs))

    def test_a_last_sign_at_a_web_without_marks(self):
        self.refused(NoWant, met, Web(3, []), ((), "m"))
        self.refused(NoWant, met, Web(3, []), ((0,), "tu"))

    def test_places_are_refused_ahead_of_signs(self):
        self.assertEqual(self.refused(NoPlace, met, PATH, ((0, 4), "")).place, 4)
        self.assertEqual(self.refused(NoPlace, met, PATH, ((1, 0), "t")).place, 0)
        self.assertEqual(self.refused(NoPlace, met, PATH, ((1, 1), "ttm")).place, 1)

    def test_numbers_of_places_that_are_refused(self):
        for k in (3, 4, *NO_COUNTS):
            self.refused(NoCount, ready, PATH, k)
            self.refused(NoCount, ready, told_marked(2), k)


class ToldMarked(Refusing):
    def test_none_one_and_two(self):
        web = told_marked(0)
        self.assertEqual((web.count, web.ties, web.marks), (2, (), (1,)))
        for k, prime in ((1, 13), (2, 29)):
            web, square = told_marked(k), square_web(prime)
            self.assertIs(type(web), MarkedWeb)
            self.assertEqual(web.count, prime - 1)
            self.assertEqual(web.ties, tuple((u - 1, v - 1) for u, v in square.ties if u > 0))
            self.assertEqual(web.marks, tuple(v - 1 for u, v in square.ties if u == 0))

    def test_they_are_ready(self):
        for k in range(3):
            self.assertIsNone(ready(told_marked(k), k))
            self.assertEqual(unmet_wants(told_marked(k), k), [])

    def test_numbers_that_are_refused(self):
        for k in (3, 4, *NO_COUNTS):
            self.refused(NoCount, told_marked, k)


class MarkedNearly(Refusing):
    def test_by_hand(self):
        for text, answer in (
            ("some x marked(x)", "all"),
            ("all x marked(x)", "none"),
            ("all x some y (tied(x, y) and marked(y))", "all"),
            ("all x some y (not tied(x, y) and marked(y))", "all"),
            ("some x all y (tied(x, y) or (same(x, y) or marked(y)))", "none"),
            ("all x all y some z ((tied(z, x) and tied(z, y)) and not marked(z))", "all"),
            ("some x some y some z ((tied(x, y) and tied(y, z)) and ((marked(x) and marked(y)) and marked(z)))", "all"),
            ("all x some y tied(x, y)", "all"),
            ("some x tied(x, x)", "none"),
            ("some w (marked(w) and not marked(w))", "none"),
        ):
            self.assertEqual(marked_nearly(read(text)), answer, text)
            self.assertEqual(marked_nearly(("not", read(text))), "none" if answer == "all" else "all", text)

    def test_as_the_told_one_has_it(self):
        dice = random.Random(156)
        for time in range(60):
            sentence = made_sentence(dice, dice.randint(1, 5), names=NAMES[:dice.randint(1, 2)])
            if depth_of(sentence) > 2:
                continue
            truth = holds_by_rule(told_marked(2), sentence, {})
            self.assertEqual(marked_nearly(sentence), "all" if truth else "none", sentence)

    def test_all_ready_ones_agree(self):
        dice = random.Random(157)
        ready_for_two = [without(square_web(37), 5), without(square_web(41).other(), 0)]
        for k in range(3):
            webs = [told_marked(k), *ready_for_two]
            for web in webs:
                self.assertIsNone(ready(web, k))
            for time in range(40):
                sentence = made_sentence(dice, dice.randint(1, 10), names=NAMES[:k + 1])
                self.assertEqual(len(names_of(sentence)), k + 1)
                for web in webs:
                    self.assertIs(holds(web, sentence, {}), marked_nearly(sentence) == "all", sentence)

    def test_sentences_that_speak_of_no_marks_are_as_in_webs(self):
        for text in ("all x some y tied(x, y)", "some x all y (same(x, y) or tied(x, y))",
                     "all x all y (same(x, y) or some z (tied(z, x) and not tied(z, y)))"):
            self.assertEqual(marked_nearly(read(text)), nearly(read(text)))

    def test_as_deep_as_can_be(self):
        with soon(self):
            text = "all x all y some z " * 6 + "((tied(z, x) and tied(z, y)) and marked(z))"
            self.assertEqual(marked_nearly(read(text)), "all")
            self.assertEqual(marked_nearly(read(text.replace("marked(z)", "(marked(z) and same(z, x))"))), "none")
            dice = random.Random(159)
            for time in range(30):
                sentence = made_sentence(dice, 50, names=NAMES[:3])
                self.assertIn(marked_nearly(sentence), ("all", "none"))

    def test_formulas_with_free_names(self):
        self.assertEqual(self.refused(NoSentence, marked_nearly, read("(marked(w) or marked(y))")).names, ("y", "w"))

    def test_sentences_of_four_names(self):
        self.refused(TooMany, marked_nearly, read("some x some y some z some w marked(w)"))
        self.refused(TooMany, marked_nearly, read("(some x marked(x) and (some y marked(y) and (some z marked(z) and "
                                                  "some w marked(w))))"))
        self.assertEqual(marked_nearly(read("some x some y some w marked(w)")), "all")

    def test_free_names_are_refused_ahead_of_too_many(self):
        formula = read("((marked(x) and marked(y)) and (marked(z) and marked(w)))")
        self.assertEqual(self.refused(NoSentence, marked_nearly, formula).names, NAMES)
        self.refused(NoSentence, marked_nearly, read("some x some y some z (tied(x, y) and tied(z, w))"))

    def test_nothing_handed_in_is_changed_and_the_same_is_told_again(self):
        sentence = read("some x marked(x)")
        kept = copy.deepcopy(sentence)
        self.assertEqual([marked_nearly(sentence), marked_nearly(sentence)], ["all", "all"])
        self.assertEqual(sentence, kept)


class MarkedBound(Refusing):
    def test_few_and_many_places(self):
        for n in (*range(1, 130), 500, 999, 1000):
            for k in range(3):
                self.same_share(marked_bound(n, k), bound_by_rule(n, k), n, k)

    def test_numbers_by_hand(self):
        self.assertEqual(marked_bound(1, 0), (1, 1))
        self.assertEqual(marked_bound(2, 0), (1, 2))
        self.assertEqual(marked_bound(10, 0), (1, 512))
        # 30 sets, 4 signs, (3/4) 29 times.
        self.assertEqual(marked_bound(30, 1), (15 * 3 ** 29, 2 ** 55))
        self.assertEqual(marked_bound(1, 1), (1, 1))

    def test_one_where_there_are_fewer_places_than_the_want_has(self):
        self.assertEqual(marked_bound(1, 2), (1, 1))

    def test_the_share_that_is_not_ready_is_never_above(self):
        for n in range(1, 5):
            webs = list(all_marked(n))
            self.assertEqual(len(webs), 2 ** (n * (n - 1) // 2 + n))
            for k in range(3):
                lacking = [web for web in webs if ready(web, k) is not None]
                self.assertLessEqual(Fraction(len(lacking), len(webs)), Fraction(*marked_bound(n, k)))

    def test_numbers_that_are_refused(self):
        for n in (0, 1001, *NO_COUNTS):
            for k in (0, 2):
                self.refused(NoCount, marked_bound, n, k)
        for k in (3, 4, *NO_COUNTS):
            for n in (1, 1000):
                self.refused(NoCount, marked_bound, n, k)


if __name__ == "__main__":
    unittest.main()
