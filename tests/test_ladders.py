import copy
import itertools
import random
import unittest
from fractions import Fraction

from almostall.errors import NoCount, NoName, NoPair, NoPlace, NoPrime, NoSentence, NoTie, NoWant, TooMany
from almostall.formulas import free_names, names_of
from almostall.ladders import Ladder, ladder_nearly, ladder_plain, ladder_way, square_ladder, told_ladder
from almostall.nearly import bound
from almostall.ready import met, ready
from almostall.texts import read
from almostall.truth import holds, table
from by_rule import (all_signs, holds_by_rule, meeting_places, plain_ways_by_rule, unmet_wants, way_by_rule,
                     ways_by_rule)
from samples import (FORMULAS, FORTY_FIGURES, NAMES, NO_COUNTS, Refusing, all_ladders, made_formulas, made_ladder,
                     made_sentence, nested_sentence, soon)

LADDER_PRIMES = [number for number in range(3, 60)
                 if number % 4 == 3 and all(number % divisor for divisor in range(2, number))]
# 0 is ahead of 1, 1 of 2, 2 of 0: a ring. All three are ahead of 3.
RING = Ladder(4, [(0, 1), (1, 2), (2, 0), (2, 3), (1, 3), (0, 3)])


def each_below(count):
    return [(b, a) for a, b in itertools.combinations(range(count), 2)]


class Ladders(Refusing):
    def test_fields(self):
        self.assertEqual(RING.count, 4)
        self.assertEqual(RING.ties, ((0, 1), (0, 3), (1, 2), (1, 3), (2, 0), (2, 3)))
        self.assertIs(type(RING.ties), tuple)
        self.assertEqual({type(tie) for tie in RING.ties}, {tuple})

    def test_one_place(self):
        ladder = Ladder(1, [])
        self.assertEqual((ladder.count, ladder.ties), (1, ()))

    def test_sixty_four_places(self):
        ladder = Ladder(64, each_below(64))
        self.assertEqual((ladder.count, ladder.ties), (64, tuple(sorted(each_below(64)))))

    def test_any_order_of_tuples(self):
        dice = random.Random(131)
        for ladder in all_ladders(4):
            ties = dice.sample(ladder.ties, 6)
            self.assertEqual(Ladder(4, ties).ties, tuple(sorted(ties)))

    def test_counts_that_are_refused(self):
        for count in (0, 65, *NO_COUNTS):
            self.refused(NoCount, Ladder, count, [])
            self.refused(NoCount, Ladder, count, [(0, 0), (9, 9)])

    def test_numbers_that_are_no_places(self):
        for number in (3, 4, -1, FORTY_FIGURES, -FORTY_FIGURES):
            self.assertEqual(self.refused(NoPlace, Ladder, 3, [(0, 1), (number, 2), (7, 8)]).place, number)
            self.assertEqual(self.refused(NoPlace, Ladder, 3, [(0, 0), (1, number)]).place, number)
        self.assertIs(self.refused(NoPlace, Ladder, 3, [(0, True)]).place, True)

    def test_a_tuple_of_one_place_twice(self):
        self.assertEqual(self.refused(NoTie, Ladder, 3, [(0, 1), (2, 2), (1, 1)]).place, 2)
        self.assertEqual(self.refused(NoTie, Ladder, 1, [(0, 0)]).place, 0)

    def test_two_places_that_a_tuple_ahead_has_already(self):
        self.assertEqual(self.refused(NoTie, Ladder, 3, [(0, 1), (0, 2), (0, 1)]).place, 0)
        self.assertEqual(self.refused(NoTie, Ladder, 3, [(0, 1), (0, 2), (1, 0), (2, 2)]).place, 1)
        self.assertEqual(self.refused(NoTie, Ladder, 3, [(2, 1), (1, 2), (1, 0), (0, 2), (0, 0)]).place, 1)
        self.assertEqual(self.refused(NoTie, Ladder, 3, [(2, 1), (0, 0), (2, 1)]).place, 0)

    def test_the_least_two_places_that_stand_in_no_tuple(self):
        self.assertEqual(self.refused(NoPair, Ladder, 2, []).places, (0, 1))
        self.assertEqual(self.refused(NoPair, Ladder, 3, [(1, 0), (2, 0)]).places, (1, 2))
        self.assertEqual(self.refused(NoPair, Ladder, 4, [(1, 0), (3, 0)]).places, (0, 2))
        self.assertEqual(self.refused(NoPair, Ladder, 64, each_below(64)[:-1]).places, (62, 63))
        self.assertIs(type(self.refused(NoPair, Ladder, 2, []).places), tuple)
        ties = [pair for pair in each_below(5) if pair not in ((3, 1), (2, 1), (4, 0))]
        self.assertEqual(self.refused(NoPair, Ladder, 5, ties).places, (0, 4))

    def test_refusals_in_their_order(self):
        self.refused(NoCount, Ladder, 65, [(70, 70)])
        self.refused(NoPlace, Ladder, 3, [(0, 0), (0, 3)])
        self.refused(NoTie, Ladder, 3, [(0, 0)])

    def test_a_list_that_is_handed_in(self):
        ties = [(1, 0), (2, 1), (0, 2)]
        ladder = Ladder(3, ties)
        self.assertEqual(ties, [(1, 0), (2, 1), (0, 2)])
        ties.clear()
        self.assertEqual(ladder.ties, ((0, 2), (1, 0), (2, 1)))
        self.assertTrue(holds(ladder, read("tied(x, y)"), {"x": 1, "y": 0}))

    def test_parts(self):
        part = RING.part([3, 2, 0])
        self.assertIs(type(part), Ladder)
        self.assertEqual((part.count, part.ties), (3, ((1, 0), (1, 2), (2, 0))))
        self.assertEqual(RING.part([1]).ties, ())

    def test_all_parts_stand_as_in_the_ladder(self):
        dice = random.Random(132)
        for time in range(40):
            ladder = made_ladder(dice, dice.randint(1, 12))
            places = dice.sample(range(ladder.count), dice.randint(1, ladder.count))
            part = ladder.part(places)
            self.assertEqual(part.count, len(places))
            self.assertEqual({(places[a], places[b]) for a, b in part.ties},
                             {(a, b) for a, b in ladder.ties if a in places and b in places})

    def test_a_part_of_all_places(self):
        ladder = Ladder(64, each_below(64))
        self.assertEqual(ladder.part(list(range(64))).ties, ladder.ties)

    def test_parts_that_are_refused(self):
        self.refused(NoCount, RING.part, [])
        for number in (4, -1, FORTY_FIGURES, True):
            self.assertIs(self.refused(NoPlace, RING.part, [0, number, 9]).place, number)
        self.assertEqual(self.refused(NoPlace, RING.part, [0, 1, 0, 4]).place, 0)

    def test_a_part_changes_neither_the_ladder_nor_the_list(self):
        places = [2, 0]
        RING.part(places)
        self.assertEqual((places, RING.ties[0]), ([2, 0], (0, 1)))


class Truth(Refusing):
    def test_tied_says_ahead(self):
        for x, y in itertools.product(range(4), repeat=2):
            self.assertIs(holds(RING, read("tied(x, y)"), {"x": x, "y": y}), (x, y) in RING.ties)
            self.assertIs(holds(RING, read("tied(y, x)"), {"x": x, "y": y}), (y, x) in RING.ties)
            self.assertIs(holds(RING, read("same(y, x)"), {"x": x, "y": y}), x == y)

    def test_no_place_is_marked(self):
        self.assertFalse(holds(RING, read("some x marked(x)"), {}))
        self.assertEqual(table(RING, read("not marked(z)")), [(0,), (1,), (2,), (3,)])

    def test_by_hand(self):
        self.assertTrue(holds(RING, read("some x all y (same(x, y) or tied(y, x))"), {}))
        self.assertFalse(holds(RING, read("some x all y (same(x, y) or tied(x, y))"), {}))
        self.assertFalse(holds(RING, read("all x some y tied(x, y)"), {}))
        self.assertTrue(holds(RING, read("all x some y tied(y, x)"), {}))
        self.assertEqual(table(RING, read("some y tied(y, x)")), [(0,), (1,), (2,), (3,)])
        self.assertEqual(table(RING, read("tied(x, y)")), list(RING.ties))
        self.assertEqual(table(RING, read("tied(y, x)")), sorted((b, a) for a, b in RING.ties))

    def test_some_formulas_in_all_ladders_of_at_most_three_places(self):
        for ladder in [ladder for count in (1, 2, 3) for ladder in all_ladders(count)]:
            for formula in FORMULAS + made_formulas(30, 8, seed=133):
                names = free_names(formula)
                found = [places for places in itertools.product(range(ladder.count), repeat=len(names))
                         if holds_by_rule(ladder, formula, dict(zip(names, places)))]
                self.assertEqual(table(ladder, formula), found, formula)
                for places in found[:3]:
                    self.assertTrue(holds(ladder, formula, dict(zip(names, places))))

    def test_made_ladders(self):
        dice = random.Random(134)
        for formula in made_formulas(150, 9, seed=135):
            ladder = made_ladder(dice, dice.randint(2, 5))
            laid = {name: dice.randrange(ladder.count) for name in NAMES}
            self.assertIs(holds(ladder, formula, laid), holds_by_rule(ladder, formula, laid), formula)

    def test_many_places(self):
        dice = random.Random(136)
        with soon(self):
            for count, text in ((64, "all x some y (tied(x, y) and tied(y, z))"), (30, "all x all y some w (tied(w, x) "
                                "and (tied(y, w) or tied(w, z)))")):
                ladder = made_ladder(dice, count)
                told = table(ladder, read(text))
                self.assertEqual([(z,) for z in range(count) if holds(ladder, read(text), {"z": z})], told)
            self.assertEqual(table(ladder, read("tied(w, y)")), sorted((b, a) for a, b in ladder.ties))

    def test_refusals(self):
        self.assertEqual(self.refused(NoName, holds, RING, read("tied(x, y)"), {"x": 9}).name, "y")
        self.assertEqual(self.refused(NoPlace, holds, RING, read("tied(x, y)"), {"x": 0, "y": 4}).place, 4)
        self.refused(TooMany, table, Ladder(31, each_below(31)), read("(tied(x, y) and tied(y, z))"))
        self.refused(TooMany, table, Ladder(10, each_below(10)), read("(tied(x, y) and tied(w, z))"))
        self.assertEqual(len(table(Ladder(30, each_below(30)), read("(tied(x, y) and tied(y, z))"))), 4060)
        self.assertEqual(len(table(Ladder(9, each_below(9)), read("(tied(x, y) and tied(w, z))"))), 36 * 36)


class Wants(Refusing):
    def test_met_by_hand(self):
        self.assertEqual(met(RING, ((3,), "t")), 0)
        self.assertIsNone(met(RING, ((3,), "o")))
        self.assertEqual(met(RING, ((0,), "t")), 2)
        self.assertEqual(met(RING, ((0,), "o")), 1)
        self.assertEqual(met(RING, ((0, 1), "ot")), None)
        self.assertEqual(met(RING, ((0, 1), "to")), 2)
        self.assertEqual(met(RING, ((), "")), 0)

    def test_all_wants_of_all_ladders_of_at_most_four_places(self):
        for ladder in [ladder for count in (1, 2, 3, 4) for ladder in all_ladders(count)]:
            for many in range(ladder.count + 1):
                for places in itertools.combinations(range(ladder.count), many):
                    for signs in all_signs(ladder, many):
                        least = min(meeting_places(ladder, places, signs), default=None)
                        self.assertEqual(met(ladder, (places, signs)), least)

    def test_the_first_want_that_is_not_met(self):
        dice = random.Random(137)
        ladders = [ladder for count in (1, 2, 3, 4) for ladder in all_ladders(count)]
        ladders += [made_ladder(dice, count) for count in range(5, 12)] + [square_ladder(7), square_ladder(11)]
        for ladder in ladders:
            for k in range(4):
                self.assertEqual(ready(ladder, k), next(iter(unmet_wants(ladder, k)), None), (ladder.ties, k))

    def test_ready_by_hand(self):
        self.assertIsNone(ready(RING, 0))
        self.assertEqual(ready(RING, 1), ((3,), "o"))
        self.assertEqual(ready(Ladder(1, []), 1), ((0,), "o"))
        self.assertIsNone(ready(Ladder(3, [(0, 1), (1, 2), (2, 0)]), 1))

    def test_refusals(self):
        self.assertEqual(self.refused(NoPlace, met, RING, ((0, 4), "tt")).place, 4)
        self.assertEqual(self.refused(NoPlace, met, RING, ((2, 1), "x")).place, 1)
        for signs in ("", "tt", "x", "m", "tm", "T"):
            self.refused(NoWant, met, RING, ((0,), signs))
        for k in (4, *NO_COUNTS):
            self.refused(NoCount, ready, RING, k)


class SquareLadders(Refusing):
    def test_each_of_them(self):
        self.assertEqual(LADDER_PRIMES, [3, 7, 11, 19, 23, 31, 43, 47, 59])
        for prime in LADDER_PRIMES:
            ladder = square_ladder(prime)
            self.assertIs(type(ladder), Ladder)
            self.assertEqual(ladder.count, prime)
            squares = {number ** 2 % prime for number in range(1, prime)}
            ahead = [(a, b) for a, b in itertools.product(range(prime), repeat=2) if (b - a) % prime in squares]
            self.assertEqual(ladder.ties, tuple(ahead))

    def test_by_hand(self):
        self.assertEqual(square_ladder(3).ties, ((0, 1), (1, 2), (2, 0)))
        self.assertEqual([b for a, b in square_ladder(7).ties if a == 0], [1, 2, 4])

    def test_other_numbers(self):
        for number in [number for number in range(-3, 80) if number not in LADDER_PRIMES]:
            self.refused(NoPrime, square_ladder, number)
        for number in (67, 71, FORTY_FIGURES, -FORTY_FIGURES, True, False):
            self.refused(NoPrime, square_ladder, number)

    def test_told_ladders_are_ready(self):
        self.assertEqual([told_ladder(k).count for k in range(4)], [1, 3, 7, 19])
        self.assertEqual(told_ladder(0).ties, ())
        for k in (1, 2, 3):
            self.assertEqual(told_ladder(k).ties, square_ladder((3, 7, 19)[k - 1]).ties)
        for k in range(4):
            self.assertIs(type(told_ladder(k)), Ladder)
            self.assertIsNone(ready(told_ladder(k), k))
            self.assertEqual(unmet_wants(told_ladder(k), k), [])

    def test_other_numbers_of_places(self):
        for k in (4, *NO_COUNTS):
            self.refused(NoCount, told_ladder, k)


class LadderWays(Refusing):
    def test_the_way_of_places(self):
        self.assertEqual(ladder_way(RING, [0, 1, 2]), "tot")
        self.assertEqual(ladder_way(RING, (1, 0)), "o")
        self.assertEqual(ladder_way(RING, [3, 3, 0, 3]), "sosost")
        self.assertEqual(ladder_way(RING, []), "")
        self.assertEqual(ladder_way(RING, (2,)), "")
        for places in itertools.product(range(4), repeat=3):
            self.assertEqual(ladder_way(RING, list(places)), way_by_rule(RING, places))

    def test_all_ways_stand_in_the_told_ladder(self):
        for many in range(5):
            found = set()
            for places in itertools.product((0,), *[range(19)] * (many - 1)) if many else [()]:
                found.add(ladder_way(told_ladder(3), places) if many < 3 else way_by_rule(told_ladder(3), places))
            self.assertEqual(sorted(found), ways_by_rule(many, one_way=True))
            self.assertEqual(len(found), (1, 1, 3, 15, 127)[many])

    def test_the_way_that_is_refused(self):
        self.refused(NoCount, ladder_way, RING, [0, 1, 2, 3, 0])
        self.refused(NoCount, ladder_way, RING, (9, 9, 9, 9, 9))
        for number in (4, -1, FORTY_FIGURES, True):
            self.assertIs(self.refused(NoPlace, ladder_way, RING, [0, number, 9]).place, number)

    def test_a_list_that_is_handed_in_stays_as_it_was(self):
        places = [2, 0]
        self.assertEqual(ladder_way(RING, places), "t")
        self.assertEqual(places, [2, 0])


class LadderPlain(Refusing):
    def test_by_hand(self):
        for text, ways in (
            ("tied(x, y)", ["t"]),
            ("tied(y, x)", ["o"]),
            ("same(y, x)", ["s"]),
            ("not tied(x, y)", ["o", "s"]),
            ("(tied(x, y) or tied(y, x))", ["o", "t"]),
            ("tied(x, x)", []),
            ("same(w, w)", [""]),
            ("marked(w)", []),
            ("all x some y tied(x, y)", [""]),
            ("some x all y (same(x, y) or tied(x, y))", []),
            ("some z (tied(x, z) and tied(z, y))", ["o", "t"]),
            ("(tied(z, x) and same(x, y))", ["soo"]),
            ("(tied(x, w) and tied(w, z))", ["oto", "tto"]),
        ):
            self.assertEqual(ladder_plain(read(text)), ways, text)

    def test_places_taken_one_for_each_way_on(self):
        for formula in FORMULAS + made_formulas(120, 7, seed=141):
            expected = plain_ways_by_rule(formula, free_names(formula), one_way=True)
            self.assertEqual(ladder_plain(formula), expected, formula)

    def test_all_ready_ladders_agree_by_ways(self):
        ladders = [told_ladder(3), square_ladder(23)]
        for ladder in ladders:
            self.assertIsNone(ready(ladder, 3))
        for formula in FORMULAS + made_formulas(60, 12, seed=142):
            names = free_names(formula)
            if len(names) > 2:
                continue
            ways = ladder_plain(formula)
            for ladder in ladders:
                found = [places for places in itertools.product(range(ladder.count), repeat=len(names))
                         if way_by_rule(ladder, places) in ways]
                self.assertEqual(table(ladder, formula), found, formula)

    def test_ladders_ready_for_as_many_as_its_names_less_one_are_enough(self):
        for formula in made_formulas(200, 9, seed=143):
            names = names_of(formula)
            ladder = told_ladder(len(names) - 1)
            free = free_names(formula)
            ways = ladder_plain(formula)
            for places in itertools.islice(itertools.product(range(ladder.count), repeat=len(free)), 60):
                truth = holds(ladder, formula, dict(zip(free, places)))
                self.assertEqual(truth, way_by_rule(ladder, places) in ways, formula)

    def test_three_and_four_free_names_in_the_told_ladder(self):
        dice = random.Random(144)
        ladder = told_ladder(3)
        for formula in FORMULAS + made_formulas(80, 14, seed=145):
            names = free_names(formula)
            ways = ladder_plain(formula)
            for time in range(30):
                places = [dice.randrange(19) for name in names]
                truth = holds(ladder, formula, dict(zip(names, places)))
                self.assertEqual(truth, way_by_rule(ladder, places) in ways, formula)

    def test_a_told_list_is_the_askers_own(self):
        told = ladder_plain(read("tied(x, y)"))
        told.clear()
        self.assertEqual(ladder_plain(read("tied(x, y)")), ["t"])

    def test_deep_ones_soon(self):
        dice = random.Random(146)
        with soon(self):
            for times in range(4, 19):
                formula = nested_sentence(dice, times)[2]
                names = free_names(formula)
                places = [dice.randrange(19) for name in names]
                truth = holds(told_ladder(3), formula, dict(zip(names, places)))
                self.assertEqual(truth, way_by_rule(told_ladder(3), places) in ladder_plain(formula))


class LadderNearly(Refusing):
    def test_by_hand(self):
        for text, answer in (
            ("all x some y tied(x, y)", "all"),
            ("some x all y (same(x, y) or tied(x, y))", "none"),
            ("some x some y some z ((tied(x, y) and tied(y, z)) and tied(z, x))", "all"),
            ("all x all y (same(x, y) or (tied(x, y) or tied(y, x)))", "all"),
            ("some x some y (tied(x, y) and tied(y, x))", "none"),
            ("all x all y some z (tied(z, x) and tied(z, y))", "all"),
            ("some x some y not ((tied(x, y) or tied(y, x)) or same(x, y))", "none"),
            ("some x tied(x, x)", "none"),
            ("all x not marked(x)", "all"),
            ("some x same(x, x)", "all"),
        ):
            self.assertEqual(ladder_nearly(read(text)), answer, text)
            self.assertEqual(ladder_nearly(("not", read(text))), "none" if answer == "all" else "all", text)

    def test_each_ready_ladder_has_it_or_none_has(self):
        dice = random.Random(147)
        ladders = [told_ladder(3), square_ladder(31)]
        for time in range(100):
            sentence = made_sentence(dice, dice.randint(1, 14))
            for ladder in ladders:
                self.assertIs(holds(ladder, sentence, {}), ladder_nearly(sentence) == "all", sentence)

    def test_told_ladders_for_as_many_as_its_names_less_one(self):
        dice = random.Random(148)
        for k in range(4):
            for time in range(60):
                sentence = made_sentence(dice, dice.randint(1, 12), names=NAMES[:k + 1])
                self.assertIs(holds(told_ladder(k), sentence, {}), ladder_nearly(sentence) == "all", sentence)

    def test_as_deep_as_can_be(self):
        text = "all x all y all z some w " * 5 + "((tied(w, x) and tied(y, w)) and not same(w, z))"
        with soon(self):
            self.assertEqual(ladder_nearly(read(text)), "none")
            text = "all x all y all z some w " * 5 + "((same(x, y) or (tied(w, x) and tied(y, w))) and not same(w, z))"
            self.assertEqual(ladder_nearly(read(text)), "all" if holds(told_ladder(3), read(text), {}) else "none")

    def test_formulas_with_free_names(self):
        self.assertEqual(self.refused(NoSentence, ladder_nearly, read("some x tied(w, x)")).names, ("w",))
        self.assertEqual(self.refused(NoSentence, ladder_nearly, read("tied(y, x)")).names, ("x", "y"))

    def test_nothing_handed_in_is_changed(self):
        formula = copy.deepcopy(FORMULAS[12])
        ladder_plain(formula)
        holds(RING, formula, {"y": 0})
        self.assertEqual(formula, FORMULAS[12])
        self.assertEqual((RING.count, RING.ties[-1]), (4, (2, 3)))


class Shares(unittest.TestCase):
    def test_the_share_of_ladders_that_are_not_ready_is_never_above_bound(self):
        for n in range(1, 6):
            ladders = list(all_ladders(n))
            self.assertEqual(len(ladders), 2 ** (n * (n - 1) // 2))
            for k in range(4):
                lacking = [ladder for ladder in ladders if ready(ladder, k) is not None]
                self.assertLessEqual(Fraction(len(lacking), len(ladders)), Fraction(*bound(n, k)))


if __name__ == "__main__":
    unittest.main()
