"""What the document promises over the whole program: its interface, and points 2, 3 and 4."""

import copy
import importlib
import inspect
import random
import unittest
from fractions import Fraction

from almostall.chains import chain_holds, parting_chain
from almostall.desk import Desk
from almostall.errors import WebError
from almostall.few import chance_bound, counted_share, least_web
from almostall.formulas import depth_of, free_names, names_of, parts_of
from almostall.ladders import Ladder, ladder_nearly, ladder_plain, ladder_way, square_ladder, told_ladder
from almostall.marked import MarkedWeb, marked_bound, marked_nearly, told_marked
from almostall.nearly import against, bound, enough, nearly
from almostall.plain import all_ways, plain_formula, plain_ways, way_of
from almostall.plays import kept_positions, rounds_of
from almostall.ready import met, ready, square_web, told_web
from almostall.texts import read, written
from almostall.truth import holds, table
from almostall.webs import Web
from almostall.within import shown_at, within
from samples import FORMULAS, NAMES, made_ladder, made_marked, made_sentence, made_web, soon

FUNCTIONS = {
    "formulas": ["free_names(formula)", "names_of(formula)", "depth_of(formula)", "parts_of(formula)"],
    "texts": ["written(formula)", "read(text)"],
    "truth": ["holds(web, formula, laid)", "table(web, formula)"],
    "ready": ["met(web, want)", "ready(web, k)", "square_web(prime)", "told_web(k)"],
    "plain": ["all_ways(many)", "way_of(web, places)", "plain_ways(formula)", "plain_formula(names, ways)"],
    "nearly": ["nearly(sentence)", "bound(n, k)", "enough(mark, k)", "against(sentence, n)"],
    "within": ["within(one, other)", "shown_at(way, many)"],
    "few": ["counted_share(sentence, n, chance)", "least_web(sentence, n)", "chance_bound(n, k, chance)"],
    "plays": ["kept_positions(one, other, many)", "rounds_of(one, other, many, position)"],
    "chains": ["chain_holds(web, chain, laid)", "parting_chain(one, other, many)"],
    "ladders": ["square_ladder(prime)", "told_ladder(k)", "ladder_way(ladder, places)", "ladder_plain(formula)",
                "ladder_nearly(sentence)"],
    "marked": ["told_marked(k)", "marked_nearly(sentence)", "marked_bound(n, k)"],
}
CLASSES = {
    "webs": {"Web(count, ties)": ["tied(u, v)", "other()", "part(places)"]},
    "ladders": {"Ladder(count, ties)": ["part(places)"]},
    "marked": {"MarkedWeb(count, ties, marks)": []},
    "desk": {"Desk()": ["tell(line)"]},
}

PATH = Web(4, [(0, 1), (1, 2)])
RING = Ladder(3, [(0, 1), (1, 2), (2, 0)])
SPOTTED = MarkedWeb(3, [(0, 1)], [2])
SENTENCE = read("all x some y tied(x, y)")
CHAIN = [("tied", "x", "y"), ("some", "y", 0)]

# Each call beside what it is handed, made anew each time: what is handed in must stay as it was.
CALLS = [
    (lambda: [4, [(2, 1), (0, 1), (1, 2)]], lambda count, ties: Web(count, ties).ties),
    (lambda: [[2, 0]], lambda places: PATH.part(places).ties),
    (lambda: [3, [(1, 0), (2, 1), (0, 2)]], lambda count, ties: Ladder(count, ties).ties),
    (lambda: [[2, 0]], lambda places: RING.part(places).ties),
    (lambda: [3, [(1, 0)], [2, 1, 2]], lambda *handed: MarkedWeb(*handed).marks),
    (lambda: [PATH, FORMULAS[12], {"y": 1, "q": 7}], holds),
    (lambda: [RING, FORMULAS[12], {"y": 1, "q": 7}], holds),
    (lambda: [SPOTTED, FORMULAS[13], {"x": 1, "q": 7}], holds),
    (lambda: [PATH, FORMULAS[6]], table),
    (lambda: [RING, FORMULAS[6]], table),
    (lambda: [SPOTTED, FORMULAS[7]], table),
    (lambda: [PATH, ((0, 2), "tt")], met),
    (lambda: [PATH, 2], ready),
    (lambda: [RING, 2], ready),
    (lambda: [SPOTTED, 2], ready),
    (lambda: [3], all_ways),
    (lambda: [PATH, [0, 1, 0]], way_of),
    (lambda: [RING, [0, 1, 0]], ladder_way),
    (lambda: [FORMULAS[8]], plain_ways),
    (lambda: [FORMULAS[8]], ladder_plain),
    (lambda: [["y", "x"], ["t", "o", "t"]], plain_formula),
    (lambda: [SENTENCE], nearly),
    (lambda: [SENTENCE], ladder_nearly),
    (lambda: [SENTENCE], marked_nearly),
    (lambda: [SENTENCE, 30], against),
    (lambda: [30, 2], bound),
    (lambda: [30, 2], marked_bound),
    (lambda: [(1, 1000), 2], enough),
    (lambda: [FORMULAS[0], FORMULAS[2]], within),
    (lambda: ["tot", 3], shown_at),
    (lambda: [SENTENCE, 4, (1, 3)], counted_share),
    (lambda: [SENTENCE, 4], lambda sentence, n: least_web(sentence, n).ties),
    (lambda: [30, 2, (1, 3)], chance_bound),
    (lambda: [PATH, PATH, 2], kept_positions),
    (lambda: [PATH, Web(2, []), 2, ((), (1, 1))], rounds_of),
    (lambda: [PATH, list(CHAIN), {"x": 1, "q": 7}], chain_holds),
    (lambda: [PATH, Web(2, []), 2], parting_chain),
    (lambda: [FORMULAS[8]], free_names),
    (lambda: [FORMULAS[8]], names_of),
    (lambda: [FORMULAS[8]], depth_of),
    (lambda: [FORMULAS[8]], parts_of),
    (lambda: [FORMULAS[8]], written),
    (lambda: ["not tied(x, y)"], read),
]


def as_written(name, act, leave_out=0):
    names = list(inspect.signature(act).parameters)[leave_out:]
    return f"{name}({', '.join(names)})"


def seen(handed):
    """Webs by their fields, for they have no sameness of their own."""
    return [vars(each) if hasattr(each, "ties") else each for each in handed]


class Interface(unittest.TestCase):
    def test_functions(self):
        for module, listed in FUNCTIONS.items():
            found = importlib.import_module(f"almostall.{module}")
            for text in listed:
                name = text.partition("(")[0]
                act = getattr(found, name)
                self.assertEqual(as_written(name, act), text)
                self.assertEqual(act.__module__, f"almostall.{module}")

    def test_classes_and_their_own_methods(self):
        for module, listed in CLASSES.items():
            found = importlib.import_module(f"almostall.{module}")
            for text, methods in listed.items():
                name = text.partition("(")[0]
                self.assertEqual(as_written(name, getattr(found, name)), text)
                own = vars(getattr(found, name))
                public = [key for key in own if inspect.isfunction(own[key]) and not key.startswith("__")]
                self.assertEqual(sorted(as_written(key, own[key], 1) for key in public), sorted(methods))

    def test_fields(self):
        self.assertEqual((PATH.count, PATH.ties), (4, ((0, 1), (1, 2))))
        self.assertEqual((RING.count, RING.ties), (3, ((0, 1), (1, 2), (2, 0))))
        self.assertEqual((SPOTTED.count, SPOTTED.ties, SPOTTED.marks), (3, ((0, 1),), (2,)))

    def test_calls_cover_all_that_hand_in_a_formula_a_list_or_a_web(self):
        called = {act.__name__ for make, act in CALLS} | {"least_web", "square_web", "told_web", "square_ladder",
                                                        "told_ladder", "told_marked"}
        listed = {text.partition("(")[0] for texts in FUNCTIONS.values() for text in texts}
        self.assertEqual(listed - called, set())


class Handed(unittest.TestCase):
    def test_nothing_that_is_handed_in_is_changed(self):
        for make, act in CALLS:
            handed = make()
            kept = copy.deepcopy(seen(handed))
            act(*handed)
            self.assertEqual(seen(handed), kept, act)

    def test_who_asks_the_same_again_is_told_the_same(self):
        for make, act in CALLS:
            self.assertEqual(act(*make()), act(*make()), act)

    def test_every_list_that_is_told_is_a_new_one(self):
        lists = 0
        for make, act in CALLS:
            handed = make()
            told = act(*handed)
            if isinstance(told, list):
                lists += 1
                kept = list(told)
                self.assertNotIn(id(told), [id(each) for each in handed])
                told.clear()
                told.append("spoilt")
                self.assertEqual(act(*handed), kept, act)
        self.assertEqual(lists, 8)

    def test_what_is_done_behind_the_call_changes_nothing(self):
        ties, marks, places = [(0, 1)], [1], [0, 1]
        web, spotted, part = Web(3, ties), MarkedWeb(3, ties, marks), PATH.part(places)
        ties.append((1, 2))
        marks.append(0)
        places.clear()
        self.assertEqual(table(web, read("tied(x, y)")), [(0, 1), (1, 0)])
        self.assertEqual(table(spotted, read("marked(x)")), [(1,)])
        self.assertEqual((part.count, part.ties), (2, ((0, 1),)))

    def test_what_is_refused_changes_nothing(self):
        desk = Desk()
        desk.tell("web a 3 0-1")
        for act in (lambda: PATH.part([0, 9]), lambda: RING.part([0, 0]), lambda: PATH.tied(0, 9),
                    lambda: desk.tell("web a 3 0-9"), lambda: met(SPOTTED, ((0,), "t")), lambda: ready(RING, 4)):
            with self.assertRaises(WebError):
                act()
        self.assertEqual((PATH.ties, RING.ties, SPOTTED.ties), (((0, 1), (1, 2)), ((0, 1), (1, 2), (2, 0)), ((0, 1),)))
        self.assertEqual(desk.tell("show a"), "3 0-1")


class Promise(unittest.TestCase):
    """Point 4, kind by kind."""

    def test_of_every_sentence_what_nearly_all_have_is_so_in_the_told_ones(self):
        dice = random.Random(171)
        for time in range(80):
            k = dice.randint(0, 3)
            sentence = made_sentence(dice, dice.randint(1, 12), names=NAMES[:k + 1])
            self.assertIs(holds(told_web(k), sentence, {}), nearly(sentence) == "all", sentence)
            self.assertIs(holds(told_ladder(k), sentence, {}), ladder_nearly(sentence) == "all", sentence)
            if k < 3:
                self.assertIs(holds(told_marked(k), sentence, {}), marked_nearly(sentence) == "all", sentence)

    def test_ready_ones_agree_though_they_are_unlike(self):
        dice = random.Random(172)
        webs, ladders = [square_web(37), square_web(53)], [square_ladder(23), square_ladder(31)]
        self.assertEqual([ready(each, 3) for each in webs + ladders], [None] * 4)
        for time in range(40):
            sentence = made_sentence(dice, dice.randint(1, 10))
            self.assertEqual({holds(web, sentence, {}) for web in webs}, {nearly(sentence) == "all"})
            self.assertEqual({holds(ladder, sentence, {}) for ladder in ladders}, {ladder_nearly(sentence) == "all"})

    def test_from_a_told_number_on_the_fraction_lies_below_a_mark(self):
        for k in range(4):
            n = enough((1, 10 ** 6), k)
            for number in range(n, 1001, 37):
                self.assertLess(Fraction(*bound(number, k)), Fraction(1, 10 ** 6))

    def test_the_share_counted_web_by_web_is_never_above_what_is_told_to_go_against_it(self):
        dice = random.Random(173)
        for time in range(30):
            sentence = made_sentence(dice, dice.randint(1, 8), names=NAMES[:2])
            for n in range(1, 6):
                answer, share = against(sentence, n)
                gone = counted_share(("not", sentence) if answer == "all" else sentence, n, (1, 2))
                self.assertLessEqual(Fraction(*gone), Fraction(*share))

    def test_two_webs_are_kept_alike_for_ever_or_a_chain_parts_them(self):
        dice = random.Random(174)
        for time in range(40):
            one, other = made_web(dice, dice.randint(1, 5)), made_web(dice, dice.randint(1, 5))
            for many in (1, 2, 3):
                chain = parting_chain(one, other, many)
                if chain is None:
                    self.assertIn(((),) * many, kept_positions(one, other, many))
                else:
                    self.assertTrue(chain_holds(one, chain, {}) and not chain_holds(other, chain, {}))


class Bounds(unittest.TestCase):
    """Point 3: up to these sizes and depths an answer is due soon."""

    def flat(self, dice, names, many):
        """So many simple formulas of these names, joined as flat as can be."""
        simple = [("tied", a, b) for a in names for b in names] + [("same", a, b) for a in names for b in names]
        formulas = [dice.choice(simple + [("marked", a) for a in names]) for time in range(many)]
        while len(formulas) > 1:
            pairs = list(zip(formulas[::2], formulas[1::2]))
            formulas = [(dice.choice(("and", "or")), *pair) for pair in pairs] + formulas[2 * len(pairs):]
        return formulas[0]

    def test_tables_of_the_greatest_webs_ladders_and_marked_webs(self):
        dice = random.Random(175)
        formula = ("all", "z", ("some", "w", self.flat(dice, NAMES, 28)))
        with soon(self):
            for make in (made_web, made_ladder, made_marked):
                each = make(dice, 64)
                told = table(each, formula)
                for time in range(10):
                    x, y = dice.randrange(64), dice.randrange(64)
                    self.assertEqual(holds(each, formula, {"x": x, "y": y}), (x, y) in told)

    def test_depths_by_the_number_of_places(self):
        dice = random.Random(176)
        with soon(self):
            for make in (made_web, made_ladder, made_marked):
                for count, depth in ((64, 2), (30, 3), (9, 5)):
                    formula = self.flat(dice, NAMES, 25)
                    for time in range(depth):
                        formula = (dice.choice(("some", "all")), dice.choice(NAMES), formula)
                    for time in range(10):
                        laid = {name: dice.randrange(count) for name in NAMES}
                        self.assertIn(holds(make(dice, count), formula, laid), (True, False))

    def test_ready_for_three_with_sixty_four_places(self):
        dice = random.Random(177)
        with soon(self):
            for time in range(3):
                ready(made_web(dice, 64), 3)
                ready(made_ladder(dice, 64), 3)
                ready(made_marked(dice, 64), 2)
            self.assertIsNone(ready(square_web(61), 3))
            self.assertIsNone(ready(square_ladder(59), 3))

    def test_plain_formulas_handed_in_again(self):
        with soon(self):
            formula = plain_formula(NAMES, all_ways(4))
            self.assertEqual(plain_ways(formula), all_ways(4))
            self.assertEqual(read(written(formula)), formula)
            self.assertIsNone(within(formula, plain_formula(NAMES, all_ways(4)[:126] * 2 + all_ways(4)[126:])))
            self.assertEqual(ladder_nearly(("all", "x", ("all", "y", ("all", "z", ("all", "w", formula))))), "none")


if __name__ == "__main__":
    unittest.main()
