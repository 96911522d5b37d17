import copy
import itertools
import math
import random
import unittest
from fractions import Fraction

from almostall.errors import NoChance, NoCount, NoSentence
from almostall.few import chance_bound, counted_share, least_web
from almostall.nearly import bound
from almostall.ready import ready
from almostall.texts import read
from almostall.truth import holds
from almostall.webs import Web
from by_rule import holds_by_rule
from samples import FORTY_FIGURES, NAMES, NO_COUNTS, Refusing, all_webs, made_sentence, nested_sentence, soon

CHANCES = [(1, 4), (1, 3), (2, 5), (1, 2), (5, 9), (2, 3), (3, 4)]
NO_CHANCES = [(0, 1), (1, 1), (1, 5), (4, 5), (-1, 2), (-1, 3), (3, 2), (2, 1), (1, FORTY_FIGURES),
              (FORTY_FIGURES - 1, FORTY_FIGURES), (FORTY_FIGURES, 4 * FORTY_FIGURES + 1),
              (3 * FORTY_FIGURES + 1, 4 * FORTY_FIGURES), (0, 5), (-FORTY_FIGURES, 3), (0, 0), (1, 0)]
ALWAYS = read("some x same(x, x)")
NEVER = read("some x tied(x, x)")
SENTENCES = [read(text) for text in (
    "some x some y tied(x, y)",
    "all x some y tied(x, y)",
    "all x all y (same(x, y) or tied(x, y))",
    "some x all y not tied(x, y)",
    "all x all y all z (not (tied(x, y) and tied(y, z)) or (same(x, z) or tied(x, z)))",
    "some x some y some z ((tied(x, y) and tied(y, z)) and not (tied(x, z) or same(x, z)))",
    "some x (some y tied(x, y) and some y not (tied(x, y) or same(x, y)))",
    "some x marked(x)",
)]
DICE = random.Random(91)
MADE = [made_sentence(DICE, DICE.randint(1, 6), names=NAMES[:DICE.randint(1, 3)]) for time in range(25)]


def share_of(web, chance):
    """Point 24: a factor for each two places."""
    share = Fraction(1)
    for pair in itertools.combinations(range(web.count), 2):
        share *= Fraction(*chance) if pair in web.ties else 1 - Fraction(*chance)
    return share


def share_by_rule(sentence, n, chance):
    return sum((share_of(web, chance) for web in all_webs(n) if holds_by_rule(web, sentence, {})), Fraction(0))


def webs_in_order(n):
    webs = [web for count in range(1, n + 1) for web in all_webs(count)]
    return sorted(webs, key=lambda web: (web.count, len(web.ties), web.ties))


def least_by_rule(sentence, n):
    return next((web for web in webs_in_order(n) if holds_by_rule(web, sentence, {})), None)


def chance_bound_by_rule(n, k, chance):
    """Point 26."""
    if n < k:
        return Fraction(1)
    m = min(Fraction(*chance), 1 - Fraction(*chance))
    return min(Fraction(1), math.comb(n, k) * 2 ** k * (1 - m ** k) ** (n - k))


class CountedShare(Refusing):
    def told(self, sentence, n, chance):
        self.same_share(counted_share(sentence, n, chance), share_by_rule(sentence, n, chance), sentence, n, chance)

    def test_at_most_four_places(self):
        for sentence in SENTENCES + MADE:
            for n in (1, 2, 3, 4):
                self.told(sentence, n, CHANCES[(n * len(sentence)) % len(CHANCES)])

    def test_each_chance(self):
        for chance in CHANCES:
            for n in (1, 2, 3, 4):
                self.told(SENTENCES[1], n, chance)

    def test_five_places(self):
        for sentence in SENTENCES[:3]:
            self.told(sentence, 5, (2, 7))

    def test_numbers_by_hand(self):
        self.assertEqual(counted_share(SENTENCES[0], 1, (1, 2)), (0, 1))
        self.assertEqual(counted_share(SENTENCES[0], 2, (1, 3)), (1, 3))
        self.assertEqual(counted_share(SENTENCES[0], 3, (1, 2)), (7, 8))
        self.assertEqual(counted_share(SENTENCES[2], 3, (3, 4)), (27, 64))
        self.assertEqual(counted_share(SENTENCES[2], 5, (1, 4)), (1, 4 ** 10))
        self.assertEqual(counted_share(read("all x all y not tied(x, y)"), 5, (1, 4)), (3 ** 10, 4 ** 10))

    def test_shares_of_all_webs_come_to_one(self):
        for n in range(1, 6):
            for chance in CHANCES:
                self.assertEqual(counted_share(ALWAYS, n, chance), (1, 1))
                self.assertEqual(counted_share(NEVER, n, chance), (0, 1))

    def test_a_sentence_and_its_not_come_to_one(self):
        for sentence in SENTENCES + MADE:
            for n in (3, 5):
                both = [Fraction(*counted_share(each, n, (3, 7))) for each in (sentence, ("not", sentence))]
                self.assertEqual(sum(both), 1)

    def test_webs_alike_but_for_their_numbers_all_count(self):
        # Two ties that meet, and nothing else: three of the webs of three places.
        self.assertEqual(counted_share(SENTENCES[5], 3, (1, 3)), (2, 9))
        self.assertEqual(counted_share(SENTENCES[5], 3, (2, 3)), (4, 9))

    def test_half_counts_webs(self):
        for n in range(1, 6):
            webs = list(all_webs(n))
            for sentence in SENTENCES[:5]:
                found = [web for web in webs if holds(web, sentence, {})]
                self.same_share(counted_share(sentence, n, (1, 2)), Fraction(len(found), len(webs)))

    def test_chances_of_forty_figures(self):
        chance = (FORTY_FIGURES + 1, 3 * FORTY_FIGURES + 1)
        with soon(self):
            for n in (1, 2, 3, 4):
                self.told(SENTENCES[1], n, chance)
            top, bottom = counted_share(SENTENCES[1], 5, chance)
            self.assertEqual(math.gcd(top, bottom), 1)
            # A share that was told, of far more figures, is a chance as well.
            again = counted_share(SENTENCES[0], 3, chance)
            self.assertEqual(Fraction(*counted_share(SENTENCES[2], 3, again)), Fraction(*again) ** 3)

    def test_many_sentences_of_many_parts(self):
        dice = random.Random(92)
        with soon(self):
            for time in range(60):
                self.assertIsInstance(counted_share(made_sentence(dice, 50, names=NAMES[:3]), 5, (1, 2)), tuple)

    def test_all_four_names(self):
        self.told(read("some x some y some z some w (tied(x, y) and tied(z, w))"), 4, (1, 3))
        with soon(self):
            sentence = nested_sentence(random.Random(93), 18)
            found = [web for web in all_webs(4) if holds(web, sentence, {})]
            self.assertEqual(Fraction(*counted_share(sentence, 4, (1, 2))), Fraction(len(found), 64))

    def test_formulas_with_free_names(self):
        self.assertEqual(self.refused(NoSentence, counted_share, read("tied(y, x)"), 3, (1, 2)).names, ("x", "y"))
        self.assertEqual(self.refused(NoSentence, counted_share, read("some x tied(w, x)"), 1, (1, 2)).names, ("w",))

    def test_numbers_that_are_refused(self):
        for n in (0, 6, 7, 64, *NO_COUNTS):
            self.refused(NoCount, counted_share, ALWAYS, n, (1, 2))

    def test_what_is_no_chance(self):
        for chance in NO_CHANCES:
            for n in (1, 5):
                self.refused(NoChance, counted_share, ALWAYS, n, chance)

    def test_refusals_in_their_order(self):
        self.refused(NoSentence, counted_share, read("tied(x, y)"), 6, (0, 1))
        self.refused(NoSentence, counted_share, read("tied(x, y)"), 5, (0, 1))
        self.refused(NoCount, counted_share, ALWAYS, 6, (0, 1))

    def test_nothing_handed_in_is_changed_and_the_same_is_told_again(self):
        sentence, chance = copy.deepcopy(SENTENCES[4]), (2, 5)
        told = counted_share(sentence, 4, chance)
        self.assertEqual(counted_share(sentence, 4, chance), told)
        self.assertEqual((sentence, chance), (SENTENCES[4], (2, 5)))


class LeastWeb(Refusing):
    def told(self, sentence, n):
        web = least_web(sentence, n)
        expected = least_by_rule(sentence, n)
        if expected is None:
            self.assertIsNone(web, (sentence, n))
        else:
            self.assertIs(type(web), Web)
            self.assertEqual((web.count, web.ties), (expected.count, expected.ties), (sentence, n))

    def test_at_most_four_places(self):
        for sentence in SENTENCES + MADE:
            for n in (1, 2, 3, 4):
                self.told(sentence, n)

    def test_five_places(self):
        for text in (
            # Two, three, four ties at a place; a ring; no two tied places with the same ties.
            "some x some y some z (not same(y, z) and (tied(x, y) and tied(x, z)))",
            "all x some y some z (not same(y, z) and (tied(x, y) and tied(x, z)))",
            "(all x some y tied(x, y) and not some x all y (tied(x, y) or same(x, y)))",
            "(all x some y tied(x, y) and all x all y all z not (tied(x, y) and (tied(y, z) and tied(z, x))))",
        ):
            self.told(read(text), 5)

    def test_fewer_places_come_first(self):
        web = least_web(ALWAYS, 5)
        self.assertEqual((web.count, web.ties), (1, ()))
        web = least_web(SENTENCES[0], 5)
        self.assertEqual((web.count, web.ties), (2, ((0, 1),)))

    def test_then_fewer_ties(self):
        # Four places at least; one tie or six of them.
        four = ("some x some y some z some w (((not same(x, y) and not same(x, z)) and not same(x, w)) and "
                "((not same(y, z) and not same(y, w)) and not same(z, w)))")
        one_or_all = "(all x all y (same(x, y) or tied(x, y)) or some x some y tied(x, y))"
        web = least_web(("and", read(four), read(one_or_all)), 5)
        self.assertEqual((web.count, web.ties), (4, ((0, 1),)))
        web = least_web(("and", read(four), SENTENCES[2]), 5)
        self.assertEqual((web.count, web.ties), (4, tuple(itertools.combinations(range(4), 2))))

    def test_then_lesser_ties(self):
        web = least_web(SENTENCES[5], 5)
        self.assertEqual((web.count, web.ties), (3, ((0, 1), (0, 2))))
        # Each place has just one that it is tied to, and there are more than two of them.
        web = least_web(read("((all x some y tied(x, y) and some x some y not (tied(x, y) or same(x, y))) and "
                             "all x all y all z (not (tied(x, y) and tied(x, z)) or same(y, z)))"), 5)
        self.assertEqual((web.count, web.ties), (4, ((0, 1), (2, 3))))

    def test_none_where_there_is_none(self):
        for n in range(1, 6):
            self.assertIsNone(least_web(NEVER, n))
            self.assertIsNone(least_web(read("some x marked(x)"), n))
        self.assertIsNone(least_web(SENTENCES[0], 1))
        self.assertIsNone(least_web(SENTENCES[5], 2))

    def test_it_has_the_sentence_and_the_share_is_above_nought(self):
        for sentence in SENTENCES + MADE:
            web = least_web(sentence, 5)
            if web is None:
                self.assertEqual([counted_share(sentence, n, (1, 2)) for n in range(1, 6)], [(0, 1)] * 5)
            else:
                self.assertTrue(holds(web, sentence, {}))
                for n in range(1, web.count):
                    self.assertEqual(counted_share(sentence, n, (1, 2)), (0, 1))
                self.assertNotEqual(counted_share(sentence, web.count, (1, 2)), (0, 1))

    def test_formulas_with_free_names(self):
        self.assertEqual(self.refused(NoSentence, least_web, read("tied(y, x)"), 3).names, ("x", "y"))

    def test_numbers_that_are_refused(self):
        for n in (0, 6, 64, *NO_COUNTS):
            self.refused(NoCount, least_web, ALWAYS, n)
            self.refused(NoCount, least_web, NEVER, n)

    def test_a_formula_is_refused_ahead_of_a_number(self):
        for n in (0, 6, -1):
            self.assertEqual(self.refused(NoSentence, least_web, read("tied(z, z)"), n).names, ("z",))

    def test_the_same_is_told_again(self):
        one, other = least_web(SENTENCES[5], 4), least_web(SENTENCES[5], 4)
        self.assertEqual((one.count, one.ties), (other.count, other.ties))


class ChanceBound(Refusing):
    def told(self, n, k, chance):
        self.same_share(chance_bound(n, k, chance), chance_bound_by_rule(n, k, chance), n, k, chance)

    def test_few_places(self):
        for n in range(1, 40):
            for k in range(4):
                for chance in CHANCES:
                    self.told(n, k, chance)

    def test_many_places(self):
        with soon(self):
            for n in (100, 360, 999, 1000):
                for k in range(4):
                    for chance in ((1, 4), (2, 5), (4, 7), (1, 2)):
                        self.told(n, k, chance)

    def test_it_is_the_same_for_a_chance_and_one_less_it(self):
        for n in (3, 20, 400):
            for k in range(4):
                self.assertEqual(chance_bound(n, k, (2, 7)), chance_bound(n, k, (5, 7)))

    def test_by_half_it_is_bound(self):
        for n in (*range(1, 150), 500, 1000):
            for k in range(4):
                self.assertEqual(chance_bound(n, k, (1, 2)), bound(n, k))

    def test_numbers_by_hand(self):
        # 5 sets, 2 signs, (2/3) four times.
        self.assertEqual(chance_bound(5, 1, (1, 3)), (1, 1))
        self.assertEqual(chance_bound(10, 1, (1, 3)), (10 * 2 * 512, 19683))
        self.assertEqual(chance_bound(10, 1, (3, 5)), (10 * 2 * 3 ** 9 // 5, 5 ** 8))

    def test_none_is_nought(self):
        for n in (1, 2, 1000):
            for chance in CHANCES:
                self.assertEqual(chance_bound(n, 0, chance), (0, 1))

    def test_one_where_there_are_fewer_places_than_the_want_has(self):
        for n, k in ((1, 2), (1, 3), (2, 3)):
            for chance in CHANCES:
                self.assertEqual(chance_bound(n, k, chance), (1, 1))

    def test_the_shares_of_webs_that_are_not_ready_never_come_above(self):
        for n in range(1, 6):
            for k in range(4):
                lacking = [web for web in all_webs(n) if ready(web, k) is not None]
                for chance in CHANCES:
                    total = sum([share_of(web, chance) for web in lacking], Fraction(0))
                    self.assertLessEqual(total, Fraction(*chance_bound(n, k, chance)))

    def test_chances_of_forty_figures(self):
        chance = (4 * FORTY_FIGURES + 3, 9 * FORTY_FIGURES + 7)
        with soon(self):
            for n in (5, 40):
                for k in range(4):
                    self.told(n, k, chance)
            for k in range(4):
                top, bottom = chance_bound(1000, k, chance)
                self.assertLess(top, bottom)
            # A share that was told, of far more figures, is a chance as well.
            again = counted_share(SENTENCES[0], 3, (FORTY_FIGURES + 1, 3 * FORTY_FIGURES + 1))
            self.told(40, 2, again)
            self.assertLess(*chance_bound(1000, 2, again))

    def test_the_ends_are_chances(self):
        for chance in ((1, 4), (3, 4), (FORTY_FIGURES, 4 * FORTY_FIGURES - 1)):
            self.assertIsInstance(chance_bound(10, 2, chance), tuple)

    def test_what_is_no_chance(self):
        for chance in NO_CHANCES:
            for n, k in ((1, 0), (10, 2), (1, 3), (1000, 3)):
                self.refused(NoChance, chance_bound, n, k, chance)

    def test_numbers_that_are_refused(self):
        for n in (0, 1001, *NO_COUNTS):
            self.refused(NoCount, chance_bound, n, 1, (1, 2))
        for k in (4, *NO_COUNTS):
            self.refused(NoCount, chance_bound, 10, k, (1, 2))

    def test_numbers_are_refused_ahead_of_a_chance(self):
        self.refused(NoCount, chance_bound, 0, 1, (0, 1))
        self.refused(NoCount, chance_bound, 10, 4, (0, 1))


if __name__ == "__main__":
    unittest.main()
