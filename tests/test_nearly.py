import math
import random
import unittest
from fractions import Fraction

from almostall.errors import NoCount, NoMark, NoSentence
from almostall.formulas import names_of
from almostall.nearly import against, bound, enough, nearly
from almostall.ready import ready, square_web, told_web
from almostall.texts import read
from almostall.truth import holds
from by_rule import holds_by_rule, plain_ways_by_rule
from samples import FORTY_FIGURES, NAMES, NO_COUNTS, Refusing, all_webs, made_sentence, nested_sentence, soon

ALL = [
    "some x same(x, x)",
    "all x some y tied(x, y)",
    "all x some y not (tied(x, y) or same(x, y))",
    "all x all y (same(x, y) or some z (tied(z, x) and not tied(z, y)))",
    "some x some y some z ((tied(x, y) and tied(y, z)) and tied(z, x))",
    "all x all y some z (tied(x, z) and tied(z, y))",
    "some x some y some z some w ((tied(x, y) and tied(z, w)) and not (tied(x, z) or tied(y, w)))",
    "all x all y all z some w ((tied(w, x) and tied(w, y)) and (tied(w, z) or same(w, w)))",
    "all x not marked(x)",
]
NONE = [
    "all x all y same(x, y)",
    "some x all y (same(x, y) or tied(x, y))",
    "some x all y not tied(x, y)",
    "some x tied(x, x)",
    "all x some y (tied(x, y) and all z (not tied(x, z) or same(z, y)))",
    "some x marked(x)",
    "some x some y (not same(x, y) and all z not (tied(z, x) and tied(z, y)))",
]


def bound_by_rule(n, k):
    """Point 19."""
    if n < k:
        return Fraction(1)
    return min(Fraction(1), math.comb(n, k) * 2 ** k * (1 - Fraction(1, 2 ** k)) ** (n - k))


def webs_by_ready(n, k):
    return [ready(web, k) is None for web in all_webs(n)]


class Nearly(Refusing):
    def test_sentences_that_nearly_all_have(self):
        for text in ALL:
            self.assertEqual(nearly(read(text)), "all", text)

    def test_sentences_that_nearly_none_has(self):
        for text in NONE:
            self.assertEqual(nearly(read(text)), "none", text)

    def test_not_turns_it_about(self):
        for text in ALL:
            self.assertEqual(nearly(("not", read(text))), "none", text)
        for text in NONE:
            self.assertEqual(nearly(("not", read(text))), "all", text)

    def test_each_ready_web_has_it_or_none_has(self):
        dice = random.Random(61)
        webs = [told_web(3), square_web(37), square_web(41).other()]
        for time in range(150):
            sentence = made_sentence(dice, dice.randint(1, 14))
            for web in webs:
                self.assertIs(holds(web, sentence, {}), nearly(sentence) == "all", sentence)

    def test_it_goes_by_places_taken_one_for_each_way_on(self):
        dice = random.Random(62)
        for time in range(60):
            sentence = made_sentence(dice, dice.randint(1, 7), names=NAMES[:dice.randint(1, 4)])
            self.assertEqual(nearly(sentence), "all" if plain_ways_by_rule(sentence, ()) else "none", sentence)

    def test_webs_ready_for_as_many_as_its_names_less_one_are_enough(self):
        dice = random.Random(63)
        for k in range(4):
            for time in range(60):
                sentence = made_sentence(dice, dice.randint(1, 12), names=NAMES[:k + 1])
                self.assertEqual(len(names_of(sentence)), k + 1)
                self.assertIs(holds(told_web(k), sentence, {}), nearly(sentence) == "all", sentence)

    def test_few_of_its_names_need_not_be_the_first(self):
        self.assertEqual(nearly(read("all w some z tied(w, z)")), "all")
        self.assertEqual(nearly(read("all w same(w, w)")), "all")
        self.assertEqual(nearly(read("some w all y (tied(w, y) or same(w, y))")), "none")

    def test_sentences_as_deep_as_can_be(self):
        dice = random.Random(64)
        web = told_web(3)
        with soon(self):
            for times in range(4, 19):
                for again in range(6):
                    sentence = nested_sentence(dice, times)
                    self.assertEqual(nearly(sentence), "all" if holds(web, sentence, {}) else "none", sentence)

    def test_twenty_some_and_all(self):
        text = "all x all y all z some w " * 5 + "((tied(w, x) and tied(w, y)) and not same(w, z))"
        with soon(self):
            self.assertEqual(nearly(read(text)), "all")
            self.assertEqual(nearly(read(text.replace("not same(w, z)", "same(w, z)"))), "none")

    def test_many_parts(self):
        dice = random.Random(65)
        with soon(self):
            for time in range(60):
                sentence = made_sentence(dice, 56)
                self.assertEqual(nearly(sentence), "all" if holds(told_web(3), sentence, {}) else "none", sentence)

    def test_formulas_with_free_names(self):
        self.assertEqual(self.refused(NoSentence, nearly, read("tied(y, x)")).names, ("x", "y"))
        self.assertEqual(self.refused(NoSentence, nearly, read("some x tied(w, x)")).names, ("w",))
        self.assertEqual(self.refused(NoSentence, nearly, read("(some x marked(x) and marked(x))")).names, ("x",))
        formula = read("((marked(w) or marked(z)) or (marked(y) or marked(x)))")
        self.assertEqual(self.refused(NoSentence, nearly, formula).names, NAMES)

    def test_who_asks_again_is_told_the_same(self):
        sentence = read(ALL[3])
        kept = read(ALL[3])
        self.assertEqual([nearly(sentence), nearly(sentence)], ["all", "all"])
        self.assertEqual(sentence, kept)


class Bound(Refusing):
    def told(self, n, k):
        self.same_share(bound(n, k), bound_by_rule(n, k), n, k)

    def test_few_places(self):
        for n in range(1, 130):
            for k in range(4):
                self.told(n, k)

    def test_many_places(self):
        with soon(self):
            for n in (500, 730, 999, 1000):
                for k in range(4):
                    self.told(n, k)

    def test_numbers_by_hand(self):
        self.assertEqual(bound(5, 1), (5, 8))
        self.assertEqual(bound(4, 1), (1, 1))
        self.assertEqual(bound(10, 1), (5, 128))
        self.assertEqual(bound(100, 1), (25, 2 ** 96))

    def test_none_is_nought(self):
        for n in (1, 2, 3, 64, 1000):
            self.assertEqual(bound(n, 0), (0, 1))

    def test_one_where_there_are_fewer_places_than_the_want_has(self):
        for n, k in ((1, 2), (1, 3), (2, 3)):
            self.assertEqual(bound(n, k), (1, 1))

    def test_one_at_most(self):
        for n, k in ((1, 1), (2, 2), (3, 3), (20, 2), (100, 3)):
            self.assertEqual(bound(n, k), (1, 1))

    def test_the_share_of_webs_that_are_not_ready_is_never_above(self):
        for n in range(1, 6):
            for k in range(4):
                found = webs_by_ready(n, k)
                self.assertLessEqual(Fraction(found.count(False), len(found)), Fraction(*bound(n, k)))

    def test_each_next_one_is_at_most_so_many_times_the_one_before(self):
        for k in (1, 2, 3):
            for n in range(k * 2 ** k, 400):
                times = Fraction(n + 1, n + 1 - k) * (1 - Fraction(1, 2 ** k))
                self.assertLess(times, 1)
                if bound(n, k) != (1, 1):
                    self.assertEqual(Fraction(*bound(n + 1, k)), times * Fraction(*bound(n, k)))

    def test_numbers_that_are_refused(self):
        for n in (0, 1001, 1002, *NO_COUNTS):
            for k in (0, 1, 3):
                self.refused(NoCount, bound, n, k)
        for k in (4, 5, *NO_COUNTS):
            for n in (1, 2, 1000):
                self.refused(NoCount, bound, n, k)


class Enough(Refusing):
    def told(self, mark, k):
        """Held against all bounds up to where each next one is sure to be lesser, and beyond."""
        n = enough(mark, k)
        self.assertIs(type(n), int)
        limit = max(n, k * 2 ** k) + 40
        found = [number for number in range(1, limit) if bound_by_rule(number, k) >= Fraction(*mark)]
        self.assertEqual(n, max(found, default=0) + 1, (mark, k))
        return n

    def test_marks_of_few_figures(self):
        for k in range(4):
            for mark in ((1, 1), (1, 2), (3, 4), (99, 100), (1, 10), (1, 1000), (7, 10 ** 6)):
                self.told(mark, k)

    def test_numbers_by_hand(self):
        # n * 2 ** (2 - n) is 1 for n = 4, 5/8 for 5, 3/8 for 6.
        self.assertEqual(enough((1, 1), 1), 5)
        self.assertEqual(enough((5, 8), 1), 6)
        self.assertEqual(enough((2, 3), 1), 5)
        self.assertEqual(enough((3, 8), 1), 7)

    def test_a_bound_that_is_the_mark_does_not_lie_below_it(self):
        for k in (1, 2, 3):
            for n in (115, 130, 200):
                mark = bound(n, k)
                self.assertLess(Fraction(*mark), 1)
                self.assertEqual(enough(mark, k), n + 1)

    def test_marks_with_bottoms_of_thirty_figures(self):
        least = 10 ** 30 - 1
        with soon(self):
            for k in (1, 2, 3):
                for mark in ((1, least), (10 ** 29, least), (least - 1, least), (7, 10 ** 29 + 1)):
                    self.told(mark, k)

    def test_marks_of_which_the_bound_goes_below_beyond_a_thousand(self):
        with soon(self):
            self.assertGreater(self.told((1, 10 ** 60), 3), 1000)

    def test_the_bound_lies_below_from_then_on(self):
        n = enough((1, 10 ** 20), 3)
        for number in range(n, 1001):
            self.assertLess(Fraction(*bound(number, 3)), Fraction(1, 10 ** 20))
        self.assertGreaterEqual(Fraction(*bound(n - 1, 3)), Fraction(1, 10 ** 20))

    def test_marks_above_one(self):
        for mark in ((2, 1), (3, 2), (10 ** 30, 10 ** 30 - 1), (FORTY_FIGURES, 1)):
            for k in range(4):
                self.assertEqual(enough(mark, k), 1)

    def test_none_is_enough_at_once(self):
        for mark in ((1, 10 ** 30 - 1), (1, 2), (1, 1), (5, 1)):
            self.assertEqual(enough(mark, 0), 1)

    def test_marks_of_nought_and_below(self):
        for mark in ((0, 1), (-1, 1), (-1, 10 ** 29), (-FORTY_FIGURES, 3)):
            for k in (0, 1, 2, 3):
                self.refused(NoMark, enough, mark, k)

    def test_numbers_that_are_refused(self):
        for k in (4, 5, *NO_COUNTS):
            for mark in ((1, 2), (3, 2), (1, 1)):
                self.refused(NoCount, enough, mark, k)

    def test_a_mark_is_refused_ahead_of_a_number(self):
        for k in (4, -1, FORTY_FIGURES):
            self.refused(NoMark, enough, (0, 1), k)
            self.refused(NoMark, enough, (-3, 2), k)


class Against(Refusing):
    def test_the_answer_and_the_bound_of_its_names_less_one(self):
        self.assertEqual(against(read("some x same(x, x)"), 1), ("all", (0, 1)))
        self.assertEqual(against(read("some x tied(x, x)"), 1000), ("none", (0, 1)))
        self.assertEqual(against(read("all x some y tied(x, y)"), 10), ("all", (5, 128)))
        for text in ALL + NONE:
            sentence = read(text)
            for n in (1, 2, 3, 50, 150, 1000):
                expected = (nearly(sentence), bound(n, len(names_of(sentence)) - 1))
                self.assertEqual(against(sentence, n), expected)
                self.assertIs(type(against(sentence, n)), tuple)

    def test_names_behind_some_and_all_count_though_nothing_speaks_of_them(self):
        self.assertEqual(against(read("some w some x same(x, x)"), 10), ("all", (5, 128)))

    def test_never_less_than_the_share_of_webs_that_go_against_it(self):
        dice = random.Random(71)
        webs = {n: list(all_webs(n)) for n in range(1, 6)}
        sentences = [made_sentence(dice, dice.randint(1, 6), names=NAMES[:dice.randint(1, 2)]) for time in range(12)]
        for sentence in sentences + [read("all x some y tied(x, y)")]:
            for n in webs:
                answer, share = against(sentence, n)
                others = [web for web in webs[n] if holds(web, sentence, {}) != (answer == "all")]
                self.assertLessEqual(Fraction(len(others), len(webs[n])), Fraction(*share), (sentence, n))

    def test_the_share_that_goes_against_one_by_the_rule(self):
        sentence = read("all x some y tied(x, y)")
        webs = list(all_webs(5))
        lacking = [web for web in webs if not holds_by_rule(web, sentence, {})]
        answer, share = against(sentence, 5)
        self.assertEqual((answer, share), ("all", (5, 8)))
        self.assertLessEqual(Fraction(len(lacking), len(webs)), Fraction(*share))

    def test_formulas_with_free_names(self):
        self.assertEqual(self.refused(NoSentence, against, read("some x tied(x, y)"), 5).names, ("y",))

    def test_numbers_that_are_refused(self):
        for n in (0, 1001, *NO_COUNTS):
            for text in ("some x same(x, x)", "all x some y tied(x, y)"):
                self.refused(NoCount, against, read(text), n)

    def test_a_formula_is_refused_ahead_of_a_number(self):
        for n in (0, 1001, -1):
            self.assertEqual(self.refused(NoSentence, against, read("tied(z, w)"), n).names, ("z", "w"))


if __name__ == "__main__":
    unittest.main()
