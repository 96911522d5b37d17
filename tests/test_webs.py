import itertools
import random
import unittest

from almostall.errors import NoCount, NoPlace, NoTie
from almostall.webs import Web
from samples import FORTY_FIGURES, all_webs, made_web

# More figures than Python is ready to write down.
VERY_GREAT = 10 ** 5000
NO_PLACES_OF_FOUR = (4, 5, -1, -4, 64, FORTY_FIGURES, -FORTY_FIGURES)


def as_told(web):
    return (web.count, web.ties)


class Making(unittest.TestCase):
    def refused(self, refusal, count, ties):
        with self.assertRaises(refusal) as caught:
            Web(count, ties)
        self.assertIs(type(caught.exception), refusal)
        return caught.exception

    def test_fields(self):
        web = Web(4, [(0, 1), (2, 3)])
        self.assertEqual(web.count, 4)
        self.assertEqual(web.ties, ((0, 1), (2, 3)))
        self.assertIs(type(web.ties), tuple)
        self.assertTrue(all(type(tie) is tuple for tie in web.ties))

    def test_one_place(self):
        self.assertEqual(as_told(Web(1, [])), (1, ()))

    def test_sixty_four_places(self):
        self.assertEqual(as_told(Web(64, [(63, 0)])), (64, ((0, 63),)))

    def test_sixty_four_places_all_tied(self):
        pairs = list(itertools.combinations(range(64), 2))
        self.assertEqual(Web(64, pairs[::-1]).ties, tuple(pairs))

    def test_ties_in_either_order_and_more_than_once_are_told_rising_and_once(self):
        web = Web(5, [(4, 3), (1, 0), (3, 4), (0, 4), (0, 1), (1, 0), (2, 1)])
        self.assertEqual(web.ties, ((0, 1), (0, 4), (1, 2), (3, 4)))

    def test_ties_rise_as_numbers(self):
        self.assertEqual(Web(12, [(10, 11), (2, 10), (2, 9)]).ties, ((2, 9), (2, 10), (10, 11)))

    def test_counts_that_are_none(self):
        for count in (0, -1, -64, 65, 66, FORTY_FIGURES, -FORTY_FIGURES):
            with self.subTest(count=count):
                self.refused(NoCount, count, [])

    def test_numbers_too_great_to_be_written_down(self):
        self.refused(NoCount, VERY_GREAT, [])
        self.assertTrue(self.refused(NoPlace, 4, [(0, VERY_GREAT)]).place == VERY_GREAT)

    def test_truths_are_no_counts(self):
        self.refused(NoCount, True, [])
        self.refused(NoCount, False, [])

    def test_the_count_is_refused_ahead_of_all_else(self):
        self.refused(NoCount, 0, [(0, 0)])
        self.refused(NoCount, 65, [(70, 1), (2, 2)])
        self.refused(NoCount, -3, [(1, 2)])

    def test_numbers_that_are_no_places(self):
        for number in NO_PLACES_OF_FOUR:
            with self.subTest(number=number):
                self.assertEqual(self.refused(NoPlace, 4, [(0, 1), (number, 2)]).place, number)
                self.assertEqual(self.refused(NoPlace, 4, [(0, 1), (2, number)]).place, number)

    def test_the_first_number_that_is_no_place(self):
        self.assertEqual(self.refused(NoPlace, 4, [(0, 1), (9, 7), (-1, 5)]).place, 9)
        self.assertEqual(self.refused(NoPlace, 4, [(0, 7), (9, 1)]).place, 7)
        self.assertEqual(self.refused(NoPlace, 4, [(7, 9)]).place, 7)
        self.assertEqual(self.refused(NoPlace, 1, [(0, 1)]).place, 1)

    def test_no_place_is_refused_ahead_of_a_tie_to_itself(self):
        self.assertEqual(self.refused(NoPlace, 4, [(2, 2), (1, 1), (0, 4)]).place, 4)
        self.assertEqual(self.refused(NoPlace, 4, [(5, 5)]).place, 5)

    def test_a_place_tied_to_itself(self):
        self.assertEqual(self.refused(NoTie, 4, [(2, 2)]).place, 2)
        self.assertEqual(self.refused(NoTie, 1, [(0, 0)]).place, 0)

    def test_the_first_place_tied_to_itself(self):
        self.assertEqual(self.refused(NoTie, 4, [(0, 1), (3, 3), (1, 1)]).place, 3)

    def test_what_is_handed_in_stays_as_it_was(self):
        ties = [(3, 2), (0, 1), (1, 0)]
        Web(4, ties)
        self.assertEqual(ties, [(3, 2), (0, 1), (1, 0)])
        wrong = [(3, 2), (0, 0), (7, 1)]
        self.refused(NoPlace, 4, wrong)
        self.assertEqual(wrong, [(3, 2), (0, 0), (7, 1)])

    def test_a_change_behind_the_call_changes_nothing(self):
        ties = [(3, 2), (0, 1)]
        web = Web(4, ties)
        ties.append((1, 2))
        ties[0] = (0, 3)
        self.assertEqual(web.ties, ((0, 1), (2, 3)))
        self.assertTrue(web.tied(2, 3))
        self.assertFalse(web.tied(0, 3))
        self.assertFalse(web.tied(1, 2))
        self.assertEqual(web.other().ties, ((0, 2), (0, 3), (1, 2), (1, 3)))


class Tied(unittest.TestCase):
    def setUp(self):
        self.web = Web(4, [(1, 0), (2, 3)])

    def test_tied_places_either_way_about(self):
        for u, v in ((0, 1), (1, 0), (2, 3), (3, 2)):
            self.assertIs(self.web.tied(u, v), True)

    def test_others(self):
        for u, v in ((0, 2), (2, 0), (1, 3), (3, 0)):
            self.assertIs(self.web.tied(u, v), False)

    def test_no_place_is_tied_to_itself(self):
        whole = Web(4, list(itertools.combinations(range(4), 2)))
        for u in range(4):
            self.assertIs(self.web.tied(u, u), False)
            self.assertIs(whole.tied(u, u), False)

    def test_it_agrees_with_the_field_ties(self):
        for web in all_webs(4):
            for u, v in itertools.product(range(4), range(4)):
                self.assertIs(web.tied(u, v), (min(u, v), max(u, v)) in web.ties)

    def test_the_last_places_of_sixty_four(self):
        web = Web(64, [(62, 63)])
        self.assertIs(web.tied(63, 62), True)
        self.assertIs(web.tied(63, 0), False)

    def refused(self, u, v):
        with self.assertRaises(NoPlace) as caught:
            self.web.tied(u, v)
        return caught.exception.place

    def test_numbers_that_are_no_places(self):
        for number in NO_PLACES_OF_FOUR:
            with self.subTest(number=number):
                self.assertEqual(self.refused(number, 0), number)
                self.assertEqual(self.refused(3, number), number)
                self.assertEqual(self.refused(number, number), number)

    def test_the_first_one_first(self):
        self.assertEqual(self.refused(8, -1), 8)
        self.assertEqual(self.refused(-1, 8), -1)

    def test_truths_are_no_places(self):
        self.assertIs(self.refused(True, 0), True)
        self.assertIs(self.refused(0, False), False)


class Other(unittest.TestCase):
    def test_of_one_place(self):
        self.assertEqual(as_told(Web(1, []).other()), (1, ()))

    def test_tied_just_where_the_web_is_not(self):
        for web in all_webs(4):
            other = web.other()
            self.assertIsInstance(other, Web)
            self.assertEqual(other.count, 4)
            for u, v in itertools.permutations(range(4), 2):
                self.assertIs(other.tied(u, v), not web.tied(u, v))
                self.assertIs(other.tied(u, u), False)

    def test_the_other_of_the_other(self):
        dice = random.Random(11)
        for count in (1, 2, 3, 17, 64):
            web = made_web(dice, count)
            self.assertEqual(as_told(web.other().other()), as_told(web))

    def test_the_web_itself_stays(self):
        web = Web(3, [(0, 1)])
        other = web.other()
        self.assertEqual(as_told(web), (3, ((0, 1),)))
        self.assertEqual(as_told(other), (3, ((0, 2), (1, 2))))
        self.assertEqual(as_told(web.other()), as_told(other))

    def test_of_sixty_four_untied_places(self):
        self.assertEqual(len(Web(64, []).other().ties), 64 * 63 // 2)


class Part(unittest.TestCase):
    def setUp(self):
        self.web = Web(5, [(0, 1), (1, 2), (2, 3), (3, 4)])

    def refused(self, refusal, places):
        with self.assertRaises(refusal) as caught:
            self.web.part(places)
        self.assertIs(type(caught.exception), refusal)
        return caught.exception

    def test_numbered_as_they_stand_in_the_list(self):
        self.assertEqual(as_told(self.web.part([3, 0, 4, 1])), (4, ((0, 2), (1, 3))))
        self.assertEqual(as_told(self.web.part([0, 1, 3, 4])), (4, ((0, 1), (2, 3))))
        self.assertIsInstance(self.web.part([2, 1]), Web)

    def test_one_place(self):
        self.assertEqual(as_told(self.web.part([4])), (1, ()))

    def test_all_places_in_each_order(self):
        for places in itertools.permutations(range(5)):
            part = self.web.part(list(places))
            self.assertEqual(part.count, 5)
            for i, j in itertools.product(range(5), range(5)):
                self.assertIs(part.tied(i, j), self.web.tied(places[i], places[j]))

    def test_sixty_four_places_turned_about(self):
        web = Web(64, [(0, 1), (5, 63)])
        self.assertEqual(as_told(web.part(list(range(63, -1, -1)))), (64, ((0, 58), (62, 63))))

    def test_an_empty_list(self):
        self.refused(NoCount, [])

    def test_numbers_that_are_no_places(self):
        for number in (5, -1, 64, FORTY_FIGURES, -FORTY_FIGURES):
            with self.subTest(number=number):
                self.assertEqual(self.refused(NoPlace, [0, number, 1]).place, number)
                self.assertEqual(self.refused(NoPlace, [number]).place, number)

    def test_a_place_that_stood_there_already(self):
        self.assertEqual(self.refused(NoPlace, [0, 3, 2, 3, 0]).place, 3)
        self.assertEqual(self.refused(NoPlace, [0, 0]).place, 0)

    def test_the_first_wrong_number_whichever_way_it_is_wrong(self):
        self.assertEqual(self.refused(NoPlace, [1, 2, 1, 9]).place, 1)
        self.assertEqual(self.refused(NoPlace, [1, 2, 9, 1]).place, 9)
        self.assertEqual(self.refused(NoPlace, [9, 9, 1]).place, 9)

    def test_a_list_of_many_places(self):
        self.assertEqual(self.refused(NoPlace, list(range(5)) + [4] * 2095).place, 4)

    def test_truths_are_no_places(self):
        self.assertIs(self.refused(NoPlace, [0, True]).place, True)

    def test_what_is_handed_in_stays_and_may_change_later(self):
        places = [3, 0, 4]
        part = self.web.part(places)
        self.assertEqual(places, [3, 0, 4])
        places[1] = 2
        self.assertEqual(as_told(part), (3, ((0, 2),)))
        self.assertEqual(as_told(self.web), (5, ((0, 1), (1, 2), (2, 3), (3, 4))))


if __name__ == "__main__":
    unittest.main()
