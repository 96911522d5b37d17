import itertools
import random
import unittest

from almostall.errors import NoCount, NoPosition
from almostall.plays import kept_positions, rounds_of
from almostall.texts import read
from almostall.truth import holds
from almostall.webs import Web
from by_rule import agrees_by_rule, positions_by_rule, rounds_by_rule
from samples import FORTY_FIGURES, NAMES, NO_COUNTS, Refusing, all_webs, made_sentence, made_web, soon

POINT = Web(1, [])
PAIR = Web(2, [(0, 1)])
APART = Web(2, [])
PATH = Web(3, [(0, 1), (1, 2)])
RING = Web(5, [(0, 1), (1, 2), (2, 3), (3, 4), (4, 0)])
LONG_PATH = Web(5, [(0, 1), (1, 2), (2, 3), (3, 4)])
SMALL = (POINT, PAIR, APART)


def empty(many):
    return ((),) * many


def pairs_of_webs(dice, times, most):
    for time in range(times):
        yield made_web(dice, dice.randint(1, most)), made_web(dice, dice.randint(1, most))


class KeptPositions(Refusing):
    def told(self, one, other, many):
        rounds = rounds_by_rule(one, other, many)
        expected = [position for position in sorted(rounds) if rounds[position] is None]
        self.assertEqual(kept_positions(one, other, many), expected, (one.ties, other.ties, many))

    def test_all_webs_of_at_most_two_places(self):
        for one, other in itertools.product(SMALL, repeat=2):
            for many in (1, 2, 3):
                self.told(one, other, many)

    def test_made_webs(self):
        dice = random.Random(101)
        for one, other in pairs_of_webs(dice, 25, 5):
            self.told(one, other, 1)
            self.told(one, other, 2)
        for one, other in pairs_of_webs(dice, 10, 3):
            self.told(one, other, 3)

    def test_three_names_over_greater_webs(self):
        self.told(Web(4, [(0, 1), (1, 2), (2, 3)]), Web(4, [(0, 2), (2, 1), (1, 3)]), 3)
        self.told(PATH, Web(4, [(0, 1), (1, 2), (2, 3)]), 3)

    def test_by_hand(self):
        self.assertEqual(kept_positions(POINT, POINT, 1), [((),), ((0, 0),)])
        self.assertEqual(kept_positions(PAIR, APART, 1), [((),), ((0, 0),), ((0, 1),), ((1, 0),), ((1, 1),)])
        self.assertEqual(kept_positions(PAIR, APART, 2), [])
        self.assertEqual(kept_positions(POINT, PAIR, 2), [])
        self.assertEqual(kept_positions(PAIR, PAIR, 2), [
            ((), ()), ((), (0, 0)), ((), (0, 1)), ((), (1, 0)), ((), (1, 1)),
            ((0, 0), ()), ((0, 0), (0, 0)), ((0, 0), (1, 1)),
            ((0, 1), ()), ((0, 1), (0, 1)), ((0, 1), (1, 0)),
            ((1, 0), ()), ((1, 0), (0, 1)), ((1, 0), (1, 0)),
            ((1, 1), ()), ((1, 1), (0, 0)), ((1, 1), (1, 1)),
        ])

    def test_with_one_name_all_are_kept(self):
        for one, other in ((RING, POINT), (LONG_PATH, RING), (PAIR, APART)):
            self.assertEqual(kept_positions(one, other, 1), positions_by_rule(one, other, 1))

    def test_the_order_has_nothing_laid_ahead_of_all_pairs(self):
        for one, other, many in ((RING, RING, 2), (PATH, PATH, 3), (LONG_PATH, LONG_PATH, 3)):
            told = kept_positions(one, other, many)
            self.assertEqual(told, sorted(told))
            self.assertEqual(told[0], empty(many))
            self.assertEqual(len(told), len(set(told)))

    def test_each_kept_position_agrees_and_can_be_gone_on_from(self):
        for one, other, many in ((RING, RING, 3), (LONG_PATH, LONG_PATH, 2)):
            kept = set(kept_positions(one, other, many))
            for position in kept:
                self.assertTrue(agrees_by_rule(one, other, position))
                for name, a in itertools.product(range(many), range(one.count)):
                    replies = [position[:name] + ((a, b),) + position[name + 1:] for b in range(other.count)]
                    self.assertTrue(kept & set(replies))
                for name, b in itertools.product(range(many), range(other.count)):
                    replies = [position[:name] + ((a, b),) + position[name + 1:] for a in range(one.count)]
                    self.assertTrue(kept & set(replies))

    def test_a_web_and_itself_numbered_otherwise(self):
        dice = random.Random(102)
        for time in range(8):
            web = made_web(dice, 5)
            order = dice.sample(range(5), 5)
            kept = kept_positions(web, web.part(order), 3)
            self.assertIn(empty(3), kept)
            # The part's place i is the web's place order[i].
            self.assertIn(((order[0], 0), (order[1], 1), (order[2], 2)), kept)

    def test_kept_alike_no_sentence_of_these_names_parts_them(self):
        dice = random.Random(103)
        webs = [web for count in (1, 2, 3) for web in all_webs(count)]
        sentences = [made_sentence(dice, dice.randint(4, 16), names=NAMES[:2]) for time in range(200)]
        sentences += [read(text) for text in (
            "some x some y tied(x, y)", "some x all y not tied(x, y)", "all x all y (tied(x, y) or same(x, y))",
            "some x all y (tied(x, y) or same(x, y))", "some x (some y tied(x, y) and all y not tied(x, x))",
            "some x some y not (tied(x, y) or same(x, y))", "all x some y (tied(x, y) and some x not tied(x, y))",
        )]
        found = {sentence: [holds(web, sentence, {}) for web in webs] for sentence in sentences}
        parted = 0
        for (at, one), (to, other) in itertools.product(enumerate(webs), repeat=2):
            by = [sentence for sentence in sentences if found[sentence][at] != found[sentence][to]]
            if empty(2) in kept_positions(one, other, 2):
                self.assertEqual(by, [])
            parted += bool(by)
        self.assertGreater(parted, 50)

    def test_of_five_places_and_three_names_soon(self):
        dice = random.Random(104)
        with soon(self):
            for time in range(60):
                kept_positions(made_web(dice, 5), made_web(dice, 5), 3)
            kept_positions(RING, RING, 3)

    def test_greater_webs(self):
        for many in (1, 2, 3):
            self.refused(NoCount, kept_positions, Web(6, []), POINT, many)
            self.refused(NoCount, kept_positions, POINT, Web(6, []), many)
            self.refused(NoCount, kept_positions, Web(64, []), Web(64, []), many)

    def test_other_numbers_of_names(self):
        for many in (0, 4, 5, *NO_COUNTS):
            self.refused(NoCount, kept_positions, PAIR, PATH, many)

    def test_a_told_list_is_the_askers_own(self):
        told = kept_positions(PATH, PATH, 2)
        kept = list(told)
        told.clear()
        self.assertEqual(kept_positions(PATH, PATH, 2), kept)

    def test_webs_handed_in_stay_as_they_were(self):
        one, other = Web(3, [(0, 1), (1, 2)]), Web(4, [(0, 1)])
        kept_positions(one, other, 3)
        rounds_of(one, other, 3, empty(3))
        self.assertEqual((one.count, one.ties), (3, ((0, 1), (1, 2))))
        self.assertEqual((other.count, other.ties), (4, ((0, 1),)))


class RoundsOf(Refusing):
    def told(self, one, other, many, positions=None):
        rounds = rounds_by_rule(one, other, many)
        for position in positions or rounds:
            self.assertEqual(rounds_of(one, other, many, position), rounds[position], (one.ties, other.ties, position))

    def test_all_webs_of_at_most_two_places(self):
        for one, other in itertools.product(SMALL, repeat=2):
            for many in (1, 2, 3):
                self.told(one, other, many)

    def test_made_webs(self):
        dice = random.Random(105)
        for one, other in pairs_of_webs(dice, 12, 4):
            self.told(one, other, 2)
        for one, other in pairs_of_webs(dice, 6, 5):
            self.told(one, other, 2, positions=dice.sample(positions_by_rule(one, other, 2), 4) + [empty(2)])
        for one, other in pairs_of_webs(dice, 8, 3):
            self.told(one, other, 3, positions=dice.sample(positions_by_rule(one, other, 3), 8) + [empty(3)])

    def test_by_hand(self):
        self.assertEqual(rounds_of(PAIR, APART, 2, empty(2)), 2)
        self.assertEqual(rounds_of(PAIR, APART, 2, ((0, 1), ())), 1)
        self.assertEqual(rounds_of(PAIR, APART, 2, ((0, 1), (1, 0))), 0)
        self.assertEqual(rounds_of(PAIR, APART, 2, ((0, 1), (0, 1))), 1)
        self.assertEqual(rounds_of(PAIR, APART, 2, ((0, 1), (0, 0))), 0)
        self.assertIsNone(rounds_of(PAIR, APART, 1, empty(1)))
        self.assertIsNone(rounds_of(PAIR, PAIR, 3, ((0, 1), (1, 0), (0, 1))))
        self.assertEqual(rounds_of(PATH, Web(3, [(0, 1), (1, 2), (2, 0)]), 3, empty(3)), 2)

    def test_more_names_may_help_the_doubter(self):
        # Four and five places, no ties: two names can't count them, three can't either.
        for many in (1, 2, 3):
            self.assertIsNone(rounds_of(Web(4, []), Web(5, []), many, empty(many)))
        # Two places against three: two names can't count them, three can.
        self.assertIsNone(rounds_of(Web(3, []), APART, 2, empty(2)))
        self.assertEqual(rounds_of(Web(3, []), APART, 3, empty(3)), 3)

    def test_four_rounds(self):
        one = Web(5, [(0, 1), (0, 2), (0, 3), (0, 4), (1, 2), (1, 3), (2, 3)])
        other = Web(5, [(0, 1), (0, 2), (0, 3), (0, 4), (1, 2), (1, 3)])
        self.assertEqual(rounds_by_rule(one, other, 2)[empty(2)], 4)
        self.assertEqual(rounds_of(one, other, 2, empty(2)), 4)

    def test_none_just_where_it_is_kept(self):
        for one, other, many in ((PATH, PATH, 2), (PATH, PAIR, 2), (PAIR, PAIR, 3)):
            kept = kept_positions(one, other, many)
            for position in positions_by_rule(one, other, many):
                self.assertEqual(rounds_of(one, other, many, position) is None, position in kept)

    def test_the_first_web_and_the_second_are_not_mixed_up(self):
        self.assertIsNone(rounds_of(PATH, RING, 1, ((2, 4),)))
        self.refused(NoPosition, rounds_of, RING, PATH, 1, ((2, 4),))

    def test_what_is_no_position(self):
        for position in (
            (), ((),), ((), (), ()), ((0, 0),),
            ((), (0,)), ((0, 0, 0), ()), ((), (0, 0, 0)),
            ((3, 0), ()), ((0, 2), ()), ((), (-1, 0)), ((), (0, -1)),
            ((FORTY_FIGURES, 0), ()), ((), (0, -FORTY_FIGURES)), ((True, 0), ()), ((), (0, False)),
            [(), ()], ([], ()), ((), [0, 0]),
        ):
            self.refused(NoPosition, rounds_of, PATH, PAIR, 2, position)

    def test_counts_are_refused_ahead_of_positions(self):
        for many in (0, 4, *NO_COUNTS):
            self.refused(NoCount, rounds_of, PATH, PAIR, many, ((5, 5),))
            self.refused(NoCount, rounds_of, PATH, PAIR, many, empty(4))
        self.refused(NoCount, rounds_of, Web(6, []), PAIR, 2, ((9, 9), ()))
        self.refused(NoCount, rounds_of, PAIR, Web(6, []), 2, ())

    def test_of_five_places_and_three_names_soon(self):
        dice = random.Random(106)
        with soon(self):
            for time in range(150):
                rounds_of(made_web(dice, 5), made_web(dice, 5), 3, empty(3))

    def test_the_same_is_told_again(self):
        position = ((0, 1), ())
        told = rounds_of(PATH, RING, 2, position)
        self.assertEqual(rounds_of(PATH, RING, 2, position), told)
        self.assertEqual(position, ((0, 1), ()))


if __name__ == "__main__":
    unittest.main()
