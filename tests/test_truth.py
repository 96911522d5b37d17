import copy
import itertools
import random
import unittest

from almostall.errors import NoName, NoPlace, TooMany
from almostall.formulas import free_names
from almostall.plain import all_ways, plain_formula
from almostall.texts import read
from almostall.truth import holds, table
from almostall.webs import Web
from by_rule import holds_by_rule
from samples import FORMULAS, FORTY_FIGURES, NAMES, Refusing, all_webs, made_formulas, made_web, nested_sentence, soon

# 0 - 1 - 2, and 3 by itself.
PATH = Web(4, [(0, 1), (1, 2)])


def layings(web, names):
    for places in itertools.product(range(web.count), repeat=len(names)):
        yield places, dict(zip(names, places))


def wide(word, names, parts):
    """So many ties and samenesses between these names, joined as flat as can be."""
    pairs = list(itertools.permutations(names, 2))
    formulas = [(("tied", "same")[at % 2], *pairs[at % len(pairs)]) for at in range(parts)]
    while len(formulas) > 1:
        last = formulas[-1:] if len(formulas) % 2 else []
        formulas = [(word, one, other) for one, other in zip(formulas[::2], formulas[1::2])] + last
    return formulas[0]


class Holds(Refusing):
    def told(self, truth, text, **laid):
        self.assertIs(holds(PATH, read(text), laid), truth, text)

    def test_tied(self):
        self.told(True, "tied(x, y)", x=0, y=1)
        self.told(True, "tied(x, y)", x=1, y=0)
        self.told(False, "tied(x, y)", x=0, y=2)
        self.told(False, "tied(x, y)", x=1, y=1)
        self.told(False, "tied(x, x)", x=1)

    def test_same(self):
        self.told(True, "same(x, y)", x=3, y=3)
        self.told(False, "same(x, y)", x=0, y=1)
        self.told(True, "same(w, w)", w=2)

    def test_no_place_of_a_web_is_marked(self):
        for place in range(4):
            self.told(False, "marked(x)", x=place)
            self.told(True, "not marked(x)", x=place)
        self.told(False, "some x marked(x)")
        self.told(True, "all x not marked(x)")

    def test_not_and_or(self):
        for one, other in itertools.product((True, False), repeat=2):
            places = dict(x=0, y=1 if one else 2, z=1 if other else 2)
            self.told(not one, "not tied(x, y)", **places)
            self.told(one and other, "(tied(x, y) and tied(x, z))", **places)
            self.told(one or other, "(tied(x, y) or tied(x, z))", **places)

    def test_some_and_all(self):
        self.told(True, "some y tied(x, y)", x=0)
        self.told(False, "some y tied(x, y)", x=3)
        self.told(True, "all y not tied(x, y)", x=3)
        self.told(False, "all y (same(x, y) or tied(x, y))", x=1)
        self.told(False, "all x some y tied(x, y)")
        self.told(True, "some x all y ((tied(x, y) or not some x tied(x, y)) or same(x, y))")

    def test_some_and_all_in_a_web_of_one_place(self):
        web = Web(1, [])
        self.assertIs(holds(web, read("some x some y tied(x, y)"), {}), False)
        self.assertIs(holds(web, read("all x all y same(x, y)"), {}), True)
        self.assertIs(holds(web, read("some y not same(x, y)"), {"x": 0}), False)

    def test_a_place_is_taken_in_the_stead_of_what_lay_there(self):
        self.told(True, "(same(x, y) and some x tied(x, y))", x=1, y=1)
        self.told(True, "some x (tied(x, y) and some y (tied(x, y) and some x tied(x, y)))", y=0)
        self.told(True, "(all x some x same(x, y) and tied(x, y))", x=0, y=1)
        self.told(False, "(some x same(x, y) and same(x, y))", x=0, y=1)
        self.told(True, "some x (tied(x, y) and not all y same(x, y))", y=2)

    def test_a_name_that_is_taken_and_not_used(self):
        self.told(True, "some z tied(x, y)", x=0, y=1)
        self.told(True, "all z tied(x, y)", x=0, y=1)
        self.told(False, "some x some x all x tied(y, z)", y=0, z=2)

    def test_all_webs_of_at_most_three_places(self):
        formulas = FORMULAS + made_formulas(120, 10)
        webs = [web for count in (1, 2, 3) for web in all_webs(count)]
        for number, formula in enumerate(formulas):
            web = webs[number % len(webs)]
            for places, laid in layings(web, free_names(formula)):
                self.assertIs(holds(web, formula, laid), holds_by_rule(web, formula, laid), (web.ties, formula, laid))

    def test_webs_of_four_to_six_places(self):
        dice = random.Random(11)
        for formula in made_formulas(150, 9, seed=12):
            web = made_web(dice, dice.randint(4, 6))
            names = free_names(formula)
            for time in range(4):
                laid = {name: dice.randrange(web.count) for name in names}
                self.assertIs(holds(web, formula, laid), holds_by_rule(web, formula, laid), (web.ties, formula, laid))

    def test_other_names_and_keys_do_not_matter(self):
        laid = {"x": 0, "y": 1, "z": 99, "w": None, "v": -1, 5: 5, None: "x", ("x",): 2}
        self.assertIs(holds(PATH, read("tied(x, y)"), laid), True)
        self.assertIs(holds(PATH, read("some z tied(y, z)"), laid), True)
        self.assertIs(holds(PATH, read("all w all z (same(w, z) or not same(w, z))"), laid), True)

    def test_the_first_free_name_that_is_not_laid(self):
        formula = read("(tied(w, z) and (tied(y, x) and some x same(x, y)))")
        self.assertEqual(self.refused(NoName, holds, PATH, formula, {}).name, "x")
        self.assertEqual(self.refused(NoName, holds, PATH, formula, {"x": 0, "z": 1}).name, "y")
        self.assertEqual(self.refused(NoName, holds, PATH, formula, {"w": 0, "y": 1, "x": 2}).name, "z")
        self.assertEqual(self.refused(NoName, holds, PATH, formula, {"z": 0, "y": 1, "x": 2}).name, "w")
        self.assertEqual(self.refused(NoName, holds, PATH, read("some x tied(x, y)"), {"x": 0}).name, "y")

    def test_a_name_is_refused_even_where_the_rest_tells_enough(self):
        self.assertEqual(self.refused(NoName, holds, PATH, read("(same(x, x) or same(y, y))"), {"x": 0}).name, "y")

    def test_a_missing_name_comes_ahead_of_a_wrong_place(self):
        self.assertEqual(self.refused(NoName, holds, PATH, read("tied(x, w)"), {"x": 9}).name, "w")

    def test_the_first_laid_number_that_is_no_place(self):
        for number in (4, -1, 64, FORTY_FIGURES, -FORTY_FIGURES):
            for name in NAMES:
                laid = {"x": 0, "y": 1, "z": 2, "w": 3, name: number}
                formula = read("((same(w, z) or same(y, x)) or same(x, w))")
                self.assertEqual(self.refused(NoPlace, holds, PATH, formula, laid).place, number)
        formula = read("(tied(w, y) and tied(z, x))")
        self.assertEqual(self.refused(NoPlace, holds, PATH, formula, {"w": 7, "z": 6, "y": 5, "x": 0}).place, 5)
        self.assertEqual(self.refused(NoPlace, holds, PATH, formula, {"w": 7, "z": 6, "y": 0, "x": 0}).place, 6)

    def test_truths_are_no_places(self):
        self.assertIs(self.refused(NoPlace, holds, PATH, read("marked(x)"), {"x": True}).place, True)

    def test_what_is_handed_in_stays_as_it_was(self):
        formula, laid = read("some x (tied(x, y) and all y tied(x, y))"), {"y": 1, "x": 9, "q": 4}
        before = copy.deepcopy((formula, laid))
        web = Web(3, [(0, 1)])
        for time in range(2):
            self.assertIs(holds(web, formula, laid), False)
            self.assertEqual((formula, laid), before)
            self.assertEqual((web.count, web.ties), (3, ((0, 1),)))

    def test_depth_two_for_sixty_four_places(self):
        web = made_web(random.Random(1), 64)
        formula = ("all", "x", ("some", "y", wide("or", "xy", 28)))
        with soon(self):
            self.assertIs(holds(web, formula, {}), True)
            self.assertIs(holds(web, ("some", "z", ("all", "w", wide("and", NAMES, 28))), {"x": 63, "y": 0}), False)

    def test_depth_three_for_thirty_places(self):
        web = made_web(random.Random(2), 30)
        with soon(self):
            self.assertIs(holds(web, ("some", "x", ("some", "y", ("some", "z", wide("and", "xyz", 28)))), {}), False)
            self.assertIs(holds(web, ("all", "x", ("some", "y", ("some", "z", wide("or", "xyz", 28)))), {}), True)

    def test_depth_five_for_nine_places(self):
        web = made_web(random.Random(3), 9)
        inmost = wide("and", NAMES, 27)
        with soon(self):
            self.assertIs(holds(web, ("some", "x", ("some", "y", ("some", "z", ("some", "w", ("some", "x", inmost))))),
                                {}), False)

    def test_deep_ones_in_few_places(self):
        dice = random.Random(4)
        for times in (1, 2, 3, 4, 5):
            web, sentence = made_web(dice, 4), nested_sentence(dice, times)
            laid = {name: dice.randrange(4) for name in NAMES}
            self.assertIs(holds(web, sentence, laid), holds_by_rule(web, sentence, laid))

    def test_a_told_formula_of_many_parts(self):
        formula = plain_formula(list(NAMES), all_ways(4))
        with soon(self):
            self.assertIs(holds(made_web(random.Random(5), 64), formula, {"x": 63, "y": 0, "z": 63, "w": 5}), True)


class Table(Refusing):
    def test_places_stand_in_the_order_of_names(self):
        web = Web(3, [(0, 1), (0, 2)])
        self.assertEqual(table(web, read("(tied(w, x) and all y (same(x, y) or tied(x, y)))")), [(0, 1), (0, 2)])
        self.assertEqual(table(web, read("(tied(w, x) and all y (same(w, y) or tied(w, y)))")), [(1, 0), (2, 0)])
        self.assertEqual(table(web, read("((same(z, y) and tied(y, x)) and not some w (tied(w, x) and tied(w, y)))")),
                         [(0, 1, 1), (0, 2, 2), (1, 0, 0), (2, 0, 0)])

    def test_one_free_name(self):
        self.assertEqual(table(PATH, read("some y tied(z, y)")), [(0,), (1,), (2,)])
        self.assertEqual(table(PATH, read("marked(z)")), [])
        self.assertEqual(table(PATH, read("same(z, z)")), [(0,), (1,), (2,), (3,)])

    def test_of_a_sentence(self):
        self.assertEqual(table(PATH, read("some x some y tied(x, y)")), [()])
        self.assertEqual(table(PATH, read("all x some y tied(x, y)")), [])
        self.assertEqual(table(Web(1, []), read("all x all y same(x, y)")), [()])

    def test_it_rises_as_numbers_do(self):
        web = Web(12, [(2, 10), (2, 9), (10, 11)])
        self.assertEqual(table(web, read("tied(x, y)")), [(2, 9), (2, 10), (9, 2), (10, 2), (10, 11), (11, 10)])

    def test_it_agrees_with_the_rule(self):
        dice = random.Random(21)
        for formula in FORMULAS + made_formulas(150, 9, seed=22):
            web = made_web(dice, dice.randint(1, 4))
            names = free_names(formula)
            expected = [places for places, laid in layings(web, names) if holds_by_rule(web, formula, laid)]
            self.assertEqual(table(web, formula), expected, (web.ties, formula))

    def test_its_things_are_tuples_of_whole_numbers(self):
        told = table(PATH, read("tied(x, y)"))
        self.assertIs(type(told), list)
        self.assertTrue(all(type(places) is tuple for places in told))
        self.assertTrue(all(type(place) is int for places in told for place in places))

    def test_three_free_names(self):
        formula = read("(same(x, y) and same(y, z))")
        self.assertEqual(table(Web(30, []), formula), [(place, place, place) for place in range(30)])
        for count in (31, 32, 64):
            self.refused(TooMany, table, Web(count, []), formula)

    def test_four_free_names(self):
        formula = read("((same(x, y) and same(y, z)) and same(z, w))")
        self.assertEqual(table(Web(9, []), formula), [(place,) * 4 for place in range(9)])
        for count in (10, 11, 30, 31, 64):
            self.refused(TooMany, table, Web(count, []), formula)

    def test_only_free_names_are_too_many(self):
        formula = read("(same(x, y) and some z (same(z, x) and some w same(w, z)))")
        self.assertEqual(table(Web(64, []), formula), [(place, place) for place in range(64)])
        formula = read("((same(x, y) and same(y, z)) and some w same(w, z))")
        self.assertEqual(len(table(Web(30, []), formula)), 30)
        self.refused(TooMany, table, Web(31, []), formula)

    def test_all_places_laid(self):
        self.assertEqual(table(Web(30, []), read("((same(x, x) or same(y, y)) or same(z, z))")),
                         list(itertools.product(range(30), repeat=3)))
        self.assertEqual(table(Web(64, []), read("(same(x, x) or same(w, w))")),
                         list(itertools.product(range(64), repeat=2)))

    def test_a_told_list_is_the_askers_own(self):
        formula = read("tied(x, y)")
        told = table(PATH, formula)
        kept = list(told)
        told.clear()
        self.assertEqual(table(PATH, formula), kept)
        sentence = read("some x same(x, x)")
        table(PATH, sentence).clear()
        self.assertEqual(table(PATH, sentence), [()])

    def test_two_free_names_and_depth_two_for_sixty_four_places(self):
        web = made_web(random.Random(23), 64)
        between = read("some z (tied(x, z) and some w (tied(z, w) and tied(w, y)))")
        with soon(self):
            told = table(web, between)
            table(web, ("some", "z", ("all", "w", wide("or", NAMES, 28))))
        rows = [{v for v in range(64) if web.tied(u, v)} for u in range(64)]
        two_on = [set().union(*[rows[z] for z in rows[u]]) for u in range(64)]
        self.assertEqual(told, [(u, v) for u in range(64) for v in range(64) if two_on[u] & rows[v]])

    def test_three_free_names_and_depth_one_for_thirty_places(self):
        web = made_web(random.Random(24), 30)
        with soon(self):
            told = table(web, read("some w ((tied(w, x) and tied(w, y)) and not tied(w, z))"))
        rows = [{v for v in range(30) if web.tied(u, v)} for u in range(30)]
        self.assertEqual(told, [(u, v, t) for u, v, t in itertools.product(range(30), repeat=3)
                                if (rows[u] & rows[v]) - rows[t]])

    def test_four_free_names_and_depth_two_for_nine_places(self):
        web = made_web(random.Random(25), 9)
        formula = read("(((tied(x, y) and tied(y, z)) and tied(z, w)) and "
                       "all x some y (tied(x, y) and not same(y, w)))")
        with soon(self):
            told = table(web, formula)
        expected = [places for places in itertools.product(range(9), repeat=4)
                    if all(web.tied(u, v) for u, v in zip(places, places[1:]))
                    and all(any(web.tied(u, v) for v in range(9) if v != places[3]) for u in range(9))]
        self.assertEqual(told, expected)


if __name__ == "__main__":
    unittest.main()
