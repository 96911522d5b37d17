import copy
import itertools
import random
import unittest

from almostall.errors import NoCount, NoPlace, NoPrime, NoWant
from almostall.ready import met, ready, square_web, told_web
from almostall.webs import Web
from by_rule import meeting_places, unmet_wants
from samples import FORTY_FIGURES, Refusing, all_webs, made_web, soon

SQUARE_PRIMES = [number for number in range(5, 62)
                 if number % 4 == 1 and all(number % divisor for divisor in range(2, number))]
PATH = Web(5, [(0, 1), (1, 2), (2, 3)])


class Met(Refusing):
    def test_the_least_place_that_meets_a_want(self):
        self.assertEqual(met(PATH, ((1,), "t")), 0)
        self.assertEqual(met(PATH, ((0,), "t")), 1)
        self.assertEqual(met(PATH, ((0,), "o")), 2)
        self.assertEqual(met(PATH, ((1, 3), "tt")), 2)
        self.assertEqual(met(PATH, ((0, 2), "to")), None)
        self.assertEqual(met(PATH, ((0, 3), "ot")), 2)

    def test_the_empty_want_is_met_by_any_place(self):
        self.assertEqual(met(PATH, ((), "")), 0)
        self.assertEqual(met(Web(1, []), ((), "")), 0)

    def test_none_of_its_own_places_meets_it(self):
        self.assertEqual(met(Web(3, []), ((0,), "o")), 1)
        self.assertEqual(met(Web(3, []), ((0, 1), "oo")), 2)
        self.assertIsNone(met(Web(3, []), ((0, 1, 2), "ooo")))
        self.assertIsNone(met(Web(1, []), ((0,), "o")))

    def test_all_wants_of_all_webs_of_at_most_four_places(self):
        for web in [web for count in (1, 2, 3, 4) for web in all_webs(count)]:
            for many in range(web.count + 1):
                for places in itertools.combinations(range(web.count), many):
                    for signs in map("".join, itertools.product("to", repeat=many)):
                        least = min(meeting_places(web, places, signs), default=None)
                        self.assertEqual(met(web, (places, signs)), least)

    def test_as_many_places_as_one_likes(self):
        web = Web(64, [(63, place) for place in range(0, 63, 2)])
        places = tuple(range(63))
        self.assertEqual(met(web, (places, "to" * 31 + "t")), 63)
        self.assertIsNone(met(web, (places, "to" * 31 + "o")))
        self.assertIsNone(met(web, (tuple(range(64)), "o" * 64)))

    def test_numbers_that_are_no_places(self):
        for number in (5, -1, 64, FORTY_FIGURES, -FORTY_FIGURES):
            self.assertEqual(self.refused(NoPlace, met, PATH, ((number,), "t")).place, number)
            self.assertEqual(self.refused(NoPlace, met, PATH, ((0, number), "tt")).place, number)
        self.assertIs(self.refused(NoPlace, met, PATH, ((False,), "t")).place, False)

    def test_places_that_do_not_rise(self):
        self.assertEqual(self.refused(NoPlace, met, PATH, ((1, 1), "tt")).place, 1)
        self.assertEqual(self.refused(NoPlace, met, PATH, ((0, 0), "tt")).place, 0)
        self.assertEqual(self.refused(NoPlace, met, PATH, ((3, 1), "tt")).place, 1)
        self.assertEqual(self.refused(NoPlace, met, PATH, ((0, 3, 2, 9), "tttt")).place, 2)
        self.assertEqual(self.refused(NoPlace, met, PATH, ((0, 9, 2, 1), "tttt")).place, 9)
        self.assertEqual(self.refused(NoPlace, met, PATH, ((9, 0, 0), "ttt")).place, 9)

    def test_signs_that_are_none(self):
        for signs in ("s", "m", "u", "T", "0", " ", "", "tt", "ot", "ts"):
            self.refused(NoWant, met, PATH, ((1,), signs))
        for signs in ("t", "", "tto", "tx", "xo", "  "):
            self.refused(NoWant, met, PATH, ((1, 2), signs))
        for signs in ("t", "o", " "):
            self.refused(NoWant, met, PATH, ((), signs))

    def test_places_are_refused_ahead_of_signs(self):
        self.assertEqual(self.refused(NoPlace, met, PATH, ((7,), "x")).place, 7)
        self.assertEqual(self.refused(NoPlace, met, PATH, ((2, 1), "t")).place, 1)

    def test_what_is_handed_in_stays_as_it_was(self):
        want = ((0, 2), "tt")
        before = copy.deepcopy(want)
        for time in range(2):
            self.assertEqual(met(PATH, want), 1)
            self.assertEqual(want, before)
        self.assertEqual((PATH.count, PATH.ties), (5, ((0, 1), (1, 2), (2, 3))))


class Ready(Refusing):
    def first_unmet(self, web, k):
        self.assertEqual(ready(web, k), next(iter(unmet_wants(web, k)), None), (web.ties, k))

    def test_all_webs_of_at_most_four_places(self):
        for web in [web for count in (1, 2, 3, 4) for web in all_webs(count)]:
            for k in range(4):
                self.first_unmet(web, k)

    def test_webs_of_five_to_eight_places(self):
        dice = random.Random(31)
        for time in range(60):
            web = made_web(dice, dice.randint(5, 8))
            for k in range(4):
                self.first_unmet(web, k)

    def test_webs_that_lack_little(self):
        for web in (square_web(29), square_web(13)):
            for flipped in (web.ties[0], web.ties[-1]):
                self.first_unmet(Web(web.count, [tie for tie in web.ties if tie != flipped]), 3)
            self.first_unmet(web.part(list(range(1, web.count))), 3)

    def test_fewer_places_then_lesser_places_then_lesser_signs(self):
        self.assertEqual(ready(Web(4, []), 3), ((0,), "t"))
        self.assertEqual(ready(Web(4, []).other(), 3), ((0,), "o"))
        self.assertEqual(ready(Web(4, [(0, 1), (2, 3)]), 3), ((0, 1), "ot"))
        self.assertEqual(ready(Web(5, [(0, 1), (1, 2), (2, 3), (3, 4)]), 1), None)
        self.assertEqual(ready(Web(12, [(0, place) for place in range(1, 11)]), 1), ((11,), "t"))
        self.assertEqual(ready(Web(12, [(place, place + 1) for place in range(0, 12, 2)]), 2), ((0, 1), "ot"))

    def test_a_want_is_a_tuple_of_a_tuple_and_a_text(self):
        want = ready(Web(5, [(0, 1), (1, 2), (2, 3), (3, 4), (0, 4)]), 2)
        self.assertEqual(want, ((0, 1), "tt"))
        self.assertIs(type(want), tuple)
        self.assertIs(type(want[0]), tuple)
        self.assertIs(type(want[1]), str)
        self.assertIsNone(met(told_web(1), want))

    def test_every_web_is_ready_for_none(self):
        for web in (Web(1, []), Web(2, [(0, 1)]), Web(64, [])):
            self.assertIsNone(ready(web, 0))

    def test_webs_of_one_to_three_places_are_ready_for_no_more(self):
        for web in [web for count in (1, 2, 3) for web in all_webs(count)]:
            for k in (1, 2, 3):
                self.assertIsNotNone(ready(web, k))

    def test_numbers_that_are_refused(self):
        for k in (-1, 4, 5, -FORTY_FIGURES, FORTY_FIGURES, True, False):
            self.refused(NoCount, ready, PATH, k)

    def test_sixty_four_places(self):
        web = made_web(random.Random(32), 64)
        with soon(self):
            want = ready(web, 3)
        self.assertEqual(meeting_places(web, *want), [])
        with soon(self):
            self.assertIsNone(ready(square_web(61), 3))


class SquareWebs(Refusing):
    def test_the_primes(self):
        self.assertEqual(SQUARE_PRIMES, [5, 13, 17, 29, 37, 41, 53, 61])

    def test_tied_where_the_difference_leaves_what_a_square_leaves(self):
        for prime in SQUARE_PRIMES:
            web = square_web(prime)
            self.assertIs(type(web), Web)
            self.assertEqual(web.count, prime)
            expected = [(u, v) for u, v in itertools.combinations(range(prime), 2)
                        if any((v - u - number ** 2) % prime == 0 for number in range(prime))]
            self.assertEqual(web.ties, tuple(expected))

    def test_the_one_of_five(self):
        self.assertEqual(square_web(5).ties, ((0, 1), (0, 4), (1, 2), (2, 3), (3, 4)))

    def test_other_numbers(self):
        others = [number for number in range(-70, 130) if number not in SQUARE_PRIMES]
        for number in others + [FORTY_FIGURES, -FORTY_FIGURES, True, False]:
            self.refused(NoPrime, square_web, number)


class ToldWebs(Refusing):
    def test_they_are_those_of_one_place_and_the_square_webs(self):
        self.assertEqual((told_web(0).count, told_web(0).ties), (1, ()))
        for k, prime in ((1, 5), (2, 13), (3, 29)):
            self.assertEqual((told_web(k).count, told_web(k).ties), (prime, square_web(prime).ties))

    def test_each_is_ready_for_as_many(self):
        for k in range(4):
            self.assertIs(type(told_web(k)), Web)
            self.assertIsNone(ready(told_web(k), k))

    def test_each_is_ready_for_as_many_by_the_rule(self):
        for k in range(4):
            self.assertEqual(unmet_wants(told_web(k), k), [])

    def test_numbers_that_are_refused(self):
        for k in (-1, 4, 5, 29, FORTY_FIGURES, True, False):
            self.refused(NoCount, told_web, k)


if __name__ == "__main__":
    unittest.main()
