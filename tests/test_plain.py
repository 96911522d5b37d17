import copy
import itertools
import random
import unittest

from almostall.errors import NoCount, NoName, NoPlace, NoWay
from almostall.formulas import free_names, parts_of
from almostall.plain import all_ways, plain_formula, plain_ways, way_of
from almostall.ready import ready, square_web, told_web
from almostall.texts import read, written
from almostall.truth import holds, table
from almostall.webs import Web
from by_rule import holds_by_rule, plain_ways_by_rule, way_by_rule, ways_by_rule
from samples import (FORMULAS, FORTY_FIGURES, NAMES, Refusing, all_webs, made_formulas, made_sentence, made_web,
                     nested_sentence, soon)

PATH = Web(4, [(0, 1), (1, 2)])


def words_of(formula):
    if isinstance(formula, str):
        return set()
    return {formula[0]}.union(*[words_of(each) for each in formula[1:]])


def ready_webs():
    """Webs that are ready for three, not all of them alike at each place."""
    square = square_web(53)
    bent = Web(53, [tie for tie in square.ties if tie not in ((0, 1), (2, 3))] + [(0, 2)])
    return [told_web(3), square_web(37), square_web(41).other(), bent]


class AllWays(Refusing):
    def test_how_many_there_are(self):
        self.assertEqual([len(all_ways(many)) for many in range(5)], [1, 1, 3, 15, 127])

    def test_few_names(self):
        self.assertEqual(all_ways(0), [""])
        self.assertEqual(all_ways(1), [""])
        self.assertEqual(all_ways(2), ["o", "s", "t"])
        self.assertEqual(all_ways(3), ["ooo", "oos", "oot", "oso", "oto", "ott", "soo", "sss", "stt", "too", "tot",
                                       "tst", "tto", "tts", "ttt"])

    def test_they_are_those_of_the_rule_in_the_order_of_texts(self):
        for many in range(5):
            self.assertEqual(all_ways(many), ways_by_rule(many))

    def test_they_are_those_in_which_places_of_a_ready_web_stand(self):
        web = told_web(3)
        for many in range(4):
            tuples = itertools.product(range(web.count), repeat=many)
            self.assertEqual(all_ways(many), sorted({way_of(web, places) for places in tuples}))
        # Each place of a square web stands as each other one does, so the first may stay.
        tuples = itertools.product(range(web.count), repeat=3)
        self.assertEqual(all_ways(4), sorted({way_of(web, (0, *places)) for places in tuples}))

    def test_numbers_that_are_refused(self):
        for many in (-1, 5, 6, FORTY_FIGURES, -FORTY_FIGURES, True, False):
            self.refused(NoCount, all_ways, many)

    def test_a_told_list_is_the_askers_own(self):
        for many in range(5):
            told = all_ways(many)
            kept = list(told)
            told.clear()
            self.assertEqual(all_ways(many), kept)


class WayOf(Refusing):
    def test_same_tied_off(self):
        self.assertEqual(way_of(PATH, [0, 1]), "t")
        self.assertEqual(way_of(PATH, [1, 0]), "t")
        self.assertEqual(way_of(PATH, [0, 2]), "o")
        self.assertEqual(way_of(PATH, [3, 3]), "s")

    def test_signs_stand_in_order(self):
        self.assertEqual(way_of(PATH, [0, 1, 2, 3]), "tootoo")
        self.assertEqual(way_of(PATH, [3, 0, 1, 1]), "ooo" + "tt" + "s")
        self.assertEqual(way_of(PATH, (0, 0, 1, 3)), "sto" + "to" + "o")

    def test_none_and_one(self):
        self.assertEqual(way_of(PATH, []), "")
        self.assertEqual(way_of(PATH, ()), "")
        self.assertEqual(way_of(PATH, [2]), "")

    def test_lists_and_tuples_by_the_rule(self):
        for web in (PATH, Web(3, [(0, 2)]), Web(1, [])):
            for many in range(5):
                for places in itertools.product(range(web.count), repeat=many):
                    self.assertEqual(way_of(web, places), way_by_rule(web, places))
                    self.assertEqual(way_of(web, list(places)), way_by_rule(web, places))
                    self.assertIn(way_of(web, places), all_ways(many))

    def test_more_than_four_places(self):
        self.refused(NoCount, way_of, PATH, [0, 1, 2, 3, 0])
        self.refused(NoCount, way_of, PATH, (0,) * 2100)

    def test_numbers_that_are_no_places(self):
        for number in (4, -1, FORTY_FIGURES, -FORTY_FIGURES):
            self.assertEqual(self.refused(NoPlace, way_of, PATH, [0, number, 1, 9]).place, number)
        self.assertEqual(self.refused(NoPlace, way_of, PATH, [7]).place, 7)
        self.assertIs(self.refused(NoPlace, way_of, PATH, [0, True]).place, True)

    def test_too_many_are_refused_ahead_of_no_places(self):
        self.refused(NoCount, way_of, PATH, [9, 9, 9, 9, 9])

    def test_what_is_handed_in_stays_as_it_was(self):
        places = [1, 0, 1]
        for time in range(2):
            self.assertEqual(way_of(PATH, places), "tst")
            self.assertEqual(places, [1, 0, 1])


class PlainWays(Refusing):
    def test_simple_ones(self):
        self.assertEqual(plain_ways(read("tied(x, y)")), ["t"])
        self.assertEqual(plain_ways(read("tied(w, z)")), ["t"])
        self.assertEqual(plain_ways(read("same(x, y)")), ["s"])
        self.assertEqual(plain_ways(read("not tied(x, y)")), ["o", "s"])
        self.assertEqual(plain_ways(read("tied(x, x)")), [])
        self.assertEqual(plain_ways(read("same(y, y)")), [""])

    def test_no_place_is_marked(self):
        self.assertEqual(plain_ways(read("marked(x)")), [])
        self.assertEqual(plain_ways(read("not marked(w)")), [""])
        self.assertEqual(plain_ways(read("(marked(x) or tied(x, z))")), ["t"])
        self.assertEqual(plain_ways(read("some x marked(x)")), [])

    def test_signs_stand_for_the_free_names_in_order(self):
        self.assertEqual(plain_ways(read("((tied(w, y) and same(y, z)) and not same(w, z))")), ["stt"])
        self.assertEqual(plain_ways(read("((tied(x, y) and not tied(x, z)) and (tied(y, z) and not same(x, z)))")),
                         ["tot"])

    def test_one_more_place_is_tied_as_one_likes(self):
        self.assertEqual(plain_ways(read("some z (tied(z, x) and not tied(z, y))")), ["o", "t"])
        self.assertEqual(plain_ways(read("some z ((tied(z, x) and tied(z, y)) and not same(x, y))")), ["o", "t"])
        self.assertEqual(plain_ways(read("all z (same(z, x) or tied(z, x))")), [])

    def test_of_a_sentence(self):
        self.assertEqual(plain_ways(read("some x same(x, x)")), [""])
        self.assertEqual(plain_ways(read("all x all y tied(x, y)")), [])

    def test_they_go_by_places_taken_one_for_each_way_on(self):
        formulas = FORMULAS + made_formulas(150, 8, seed=41)
        for formula in formulas:
            self.assertEqual(plain_ways(formula), plain_ways_by_rule(formula, free_names(formula)), formula)

    def test_formulas_with_deeper_some_and_all(self):
        dice = random.Random(42)
        for time in range(40):
            sentence = made_sentence(dice, dice.randint(1, 6))
            for formula in (sentence, sentence[2], sentence[2][2]):
                self.assertEqual(plain_ways(formula), plain_ways_by_rule(formula, free_names(formula)), formula)

    def test_by_these_ways_it_holds_in_each_ready_web(self):
        webs = ready_webs()
        for web in webs:
            self.assertIsNone(ready(web, 3))
        dice = random.Random(43)
        for formula in FORMULAS + made_formulas(120, 12, seed=44):
            names = free_names(formula)
            told = plain_ways(formula)
            for web in webs:
                for time in range(3):
                    places = [dice.randrange(web.count) for name in names]
                    places = [dice.choice((place, places[0])) for place in places]
                    expected = way_by_rule(web, places) in told
                    self.assertIs(holds(web, formula, dict(zip(names, places))), expected, (formula, places))

    def test_by_these_ways_it_holds_at_all_places_of_the_told_web(self):
        web = told_web(3)
        for formula in made_formulas(60, 12, seed=45):
            names = free_names(formula)
            if len(names) < 3:
                tuples = itertools.product(range(web.count), repeat=len(names))
                told = plain_ways(formula)
                expected = [places for places in tuples if way_by_rule(web, places) in told]
                self.assertEqual(table(web, formula), expected, formula)

    def test_few_names_need_webs_less_ready(self):
        dice = random.Random(46)
        for k in (1, 2):
            web = told_web(k)
            for time in range(40):
                formula = made_sentence(dice, dice.randint(1, 9), names=NAMES[:k + 1])[2]
                names = free_names(formula)
                tuples = itertools.product(range(web.count), repeat=len(names))
                told = plain_ways(formula)
                self.assertEqual(table(web, formula), [places for places in tuples if way_of(web, places) in told])

    def test_deep_ones(self):
        dice = random.Random(47)
        web = told_web(3)
        with soon(self):
            for times in range(1, 19):
                formula = nested_sentence(dice, times)
                names = free_names(formula)
                places = [dice.randrange(web.count) for name in names]
                expected = way_of(web, places) in plain_ways(formula)
                self.assertIs(holds(web, formula, dict(zip(names, places))), expected)

    def test_a_told_list_is_the_askers_own(self):
        for text in ("not tied(x, y)", "some x same(x, x)", "same(y, y)"):
            told = plain_ways(read(text))
            kept = list(told)
            told.clear()
            self.assertEqual(plain_ways(read(text)), kept)


class PlainFormula(Refusing):
    def says_just(self, web, names, ways):
        """Told for these names and ways, it holds in the web just where places stand in one of them."""
        formula = plain_formula(names, ways)
        self.assertLessEqual(words_of(formula), {"tied", "same", "not", "and", "or"})
        self.assertLessEqual(set(free_names(formula)), set(names) or {"x"})
        spoken_of = list(names) or ["x"]
        for places in itertools.product(range(web.count), repeat=len(spoken_of)):
            expected = way_by_rule(web, places) in ways
            self.assertIs(holds_by_rule(web, formula, dict(zip(spoken_of, places))), expected, (names, ways, places))

    def test_each_way_of_two_names_in_either_order(self):
        for names in itertools.permutations(NAMES, 2):
            for many in range(4):
                for ways in itertools.combinations(("o", "s", "t"), many):
                    self.says_just(PATH, list(names), list(ways))

    def test_each_way_of_three_names(self):
        dice = random.Random(51)
        for way in all_ways(3):
            self.says_just(PATH, dice.sample(NAMES, 3), [way])

    def test_each_way_of_four_names(self):
        dice = random.Random(52)
        web = Web(4, [(0, 1), (1, 2), (2, 3)])
        for number, way in enumerate(all_ways(4)):
            self.says_just(web if number % 8 == 0 else Web(3, [(0, 1)]), dice.sample(NAMES, 4), [way])

    def test_it_tells_each_way_from_each_other_one(self):
        web = told_web(3)
        places = {}
        for found in itertools.product(range(web.count), repeat=3):
            places.setdefault(way_of(web, (0, *found)), (0, *found))
        names = ["w", "y", "x", "z"]
        for way in places:
            formula = plain_formula(names, [way])
            self.assertTrue(holds(web, formula, dict(zip(names, places[way]))))
            self.assertEqual([other for other in places if holds(web, formula, dict(zip(names, places[other])))], [way])

    def test_several_ways_in_webs_of_whatever_kind(self):
        dice = random.Random(53)
        webs = [web for count in (1, 2, 3) for web in all_webs(count)] + [made_web(dice, 4) for time in range(4)]
        for web in webs:
            for many in range(5):
                names = dice.sample(NAMES, many)
                ways = dice.choices(all_ways(many), k=dice.randint(0, 6))
                self.says_just(web, names, ways)

    def test_names_in_a_tuple(self):
        self.says_just(PATH, ("z", "x"), ["t"])
        self.says_just(PATH, (), [""])

    def test_no_names(self):
        self.says_just(PATH, [], [""])
        self.says_just(PATH, [], [])
        self.assertEqual(free_names(plain_formula([], [""])), ("x",))
        self.assertEqual(free_names(plain_formula([], [])), ("x",))

    def test_one_name(self):
        for name in NAMES:
            self.says_just(PATH, [name], [""])
            self.says_just(PATH, [name], [])
            self.assertEqual(free_names(plain_formula([name], [""])), (name,))

    def test_no_ways(self):
        for many in range(5):
            self.says_just(PATH, list(NAMES[:many]), [])

    def test_all_ways(self):
        web = Web(3, [(0, 1)])
        for many in range(5):
            self.says_just(web, list(NAMES[:many]), all_ways(many))

    def test_ways_more_than_once(self):
        self.says_just(PATH, ["x", "y"], ["t", "s", "t", "t"])
        self.says_just(PATH, [], ["", ""])
        self.says_just(PATH, ["y"], [""] * 2100)
        self.says_just(Web(3, [(0, 1)]), ["w", "z", "x"], ["tts", "ooo"] * 1050)

    def test_it_has_the_same_ways_again(self):
        dice = random.Random(54)
        for many in (2, 3, 4):
            for time in range(10):
                ways = sorted(dice.sample(all_ways(many), dice.randint(1, len(all_ways(many)))))
                formula = plain_formula(list(NAMES[:many]), ways)
                if free_names(formula) == NAMES[:many]:
                    self.assertEqual(plain_ways(formula), ways)

    def test_a_plain_formula_says_what_the_formula_says_in_ready_webs(self):
        dice = random.Random(55)
        web = told_web(3)
        for formula in made_formulas(60, 12, seed=56):
            names = free_names(formula)
            plain = plain_formula(names, plain_ways(formula))
            for time in range(5):
                laid = {name: dice.randrange(web.count) for name in NAMES}
                self.assertIs(holds(web, plain, laid), holds(web, formula, laid), formula)

    def test_what_was_told_may_be_handed_in_again(self):
        formula = plain_formula(list(NAMES), all_ways(4))
        with soon(self):
            self.assertEqual(read(written(formula)), formula)
            self.assertGreater(parts_of(formula), 0)
            self.assertEqual(plain_ways(("all", "x", ("all", "y", ("all", "z", ("all", "w", formula))))), [""])
            self.assertEqual(len(table(Web(9, []), plain_formula(list(NAMES), all_ways(4)[:1]))), 9 * 8 * 7 * 6)

    def test_names_that_are_none(self):
        for name in ("v", "", "X", "xy", "x ", "tied", "a" * 800):
            self.assertEqual(self.refused(NoName, plain_formula, ["x", name, "v", "x"], []).name, name)
        self.assertEqual(self.refused(NoName, plain_formula, ["q"], [""]).name, "q")

    def test_names_that_stood_ahead_already(self):
        self.assertEqual(self.refused(NoName, plain_formula, ["x", "x"], ["s"]).name, "x")
        self.assertEqual(self.refused(NoName, plain_formula, ["w", "y", "z", "y", "q"], []).name, "y")
        self.assertEqual(self.refused(NoName, plain_formula, ["x", "y", "z", "w", "z"], []).name, "z")
        self.assertEqual(self.refused(NoName, plain_formula, ["x"] * 2100, []).name, "x")

    def test_what_is_no_way_of_so_many_names(self):
        for way in ("", "x", "tt", "S", " ", "ttt", "t "):
            self.assertEqual(self.refused(NoWay, plain_formula, ["x", "y"], ["t", way, "q"]).way, way)
        for way in ("sto", "sts", "sst", "tos", "oss", "tt", "t", "", "tttt"):
            self.assertEqual(self.refused(NoWay, plain_formula, ["x", "y", "w"], ["ttt", way, "q"]).way, way)
        for way in ("ssssst", "stotto", "tttsst", "ttt", "tttttm"):
            self.assertEqual(self.refused(NoWay, plain_formula, list(NAMES), [way]).way, way)
        for names in ([], ["z"]):
            self.assertEqual(self.refused(NoWay, plain_formula, names, ["", "s"]).way, "s")

    def test_all_texts_that_are_no_ways(self):
        for many, signs in ((0, "stom"), (1, "stom"), (2, "stom"), (3, "stom"), (4, "sto")):
            ways = ways_by_rule(many)
            for text in map("".join, itertools.product(signs, repeat=many * (many - 1) // 2)):
                if text not in ways:
                    self.assertEqual(self.refused(NoWay, plain_formula, list(NAMES[:many]), [text]).way, text)

    def test_names_are_refused_ahead_of_ways(self):
        self.assertEqual(self.refused(NoName, plain_formula, ["x", "q"], ["zz"]).name, "q")
        self.assertEqual(self.refused(NoName, plain_formula, ["x", "y", "z", "w", "v"], ["zz"]).name, "v")

    def test_what_is_handed_in_stays_and_may_change_later(self):
        names, ways = ["y", "x", "z"], ["tto", "ooo", "tto"]
        before = copy.deepcopy((names, ways))
        formula = plain_formula(names, ways)
        self.assertEqual((names, ways), before)
        self.assertEqual(plain_formula(names, ways), formula)
        kept = copy.deepcopy(formula)
        names.clear()
        ways.clear()
        self.assertEqual(formula, kept)


if __name__ == "__main__":
    unittest.main()
