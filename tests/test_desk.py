import itertools
import random
import unittest

from almostall.desk import Desk
from almostall.errors import NoCount, NoLine, NoName, NoPlace, NoSentence, NoText, NoTie, NoWord, WebError
from almostall.formulas import free_names
from almostall.nearly import against, nearly
from almostall.plain import plain_ways
from almostall.ready import ready, square_web
from almostall.texts import read, written
from almostall.truth import holds
from almostall.webs import Web
from almostall.within import within
from samples import FORMULAS, FORTY_FIGURES, Refusing, made_formulas, made_web, soon

TIED_ALL = "all x some y tied(x, y)"
# A new name is one to eight small letters.
NO_NEW_NAMES = ("A", "a1", "1", "abcdefghi", "-", "a-b", "aB", "/", "a_b", "z.", "abcdefghijklmnop", "~", "{")
# Numbers are written by figures, no nought ahead but in 0 itself.
NO_NUMBERS = ("-1", "+1", "01", "00", "x", "1x", "1.0", "1,", "0x1", "1e3", "-", "1_0", "''")
NO_TIES = ("0", "0-", "-0", "-", "0-1-2", "0--1", "00-1", "0-01", "x-1", "0-x", "0_1", "0-1,", "+0-1", "--", "0-+1",
           "0.1")


def line_of(name, web):
    return " ".join(["web", name, str(web.count), *[f"{u}-{v}" for u, v in web.ties]])


class AtADesk(Refusing):
    """Each test has a desk with two webs and three formulas of its own."""

    def setUp(self):
        self.desk = Desk()
        for line in ("web path 4 0-1 1-2", "web one 1", f"say full {TIED_ALL}", "say tie tied(x, y)",
                     "say off not (tied(x, y) or same(x, y))"):
            self.tell(line)

    def tell(self, line):
        return self.desk.tell(line)

    def told(self, line, answer):
        text = self.desk.tell(line)
        self.assertIs(type(text), str)
        self.assertEqual(text, answer, line)

    def standing(self):
        webs, formulas = self.tell("all").split("/")
        return ({name: self.tell(f"show {name}") for name in webs.split()},
                {name: self.tell(f"text {name}") for name in formulas.split()})

    def not_told(self, refusal, line):
        """What is refused changes nothing."""
        before = self.standing()
        caught = self.refused(refusal, self.desk.tell, line)
        self.assertEqual(self.standing(), before, line)
        return caught


class Lines(AtADesk):
    def test_web_and_show(self):
        self.told("web a 4 2-1 0-1 1-2", "a")
        self.told("show a", "4 0-1 1-2")
        self.told("web lonely 64", "lonely")
        self.told("show lonely", "64")
        self.told("web abcdefgh 2 1-0", "abcdefgh")
        self.told("show abcdefgh", "2 0-1")

    def test_a_web_in_the_stead_of_another_one(self):
        self.told("web path 2 0-1", "path")
        self.told("show path", "2 0-1")

    def test_the_line_of_a_web_that_is_shown_makes_it_again(self):
        dice = random.Random(161)
        for count in (1, 2, 7, 30, 64):
            web = made_web(dice, count)
            self.told(line_of("a", web), "a")
            shown = self.tell("show a")
            self.assertEqual(f"web a {shown}", line_of("a", web))

    def test_other(self):
        self.told("other new path", "new")
        self.told("show new", "4 0-2 0-3 1-3 2-3")
        self.told("show path", "4 0-1 1-2")
        self.told("other path path", "path")
        self.told("show path", "4 0-2 0-3 1-3 2-3")

    def test_part(self):
        self.told("part new path 2 0 1", "new")
        self.told("show new", "3 0-2 1-2")
        self.told("part new path 3", "new")
        self.told("show new", "1")
        self.told("part path path 1 2", "path")
        self.told("show path", "2 0-1")

    def test_say_and_text(self):
        text = "some x (tied(x, y) and not all y same(x, y))"
        self.told(f"say f {text}", "f")
        self.told("text f", text)
        self.told("say f marked(w)", "f")
        self.told("text f", "marked(w)")
        for formula in FORMULAS + made_formulas(60, 15, seed=162):
            self.told(f"say f {written(formula)}", "f")
            self.told("text f", written(formula))

    def test_webs_and_formulas_stand_apart(self):
        self.told("say path tied(x, y)", "path")
        self.told("show path", "4 0-1 1-2")
        self.told("text path", "tied(x, y)")
        self.told("web tie 2", "tie")
        self.told("text tie", "tied(x, y)")
        self.told("holds path path 0 1", "yes")

    def test_words_of_lines_may_be_names(self):
        self.told("web web 2 0-1", "web")
        self.told("say say same(x, x)", "say")
        self.told("web all 3", "all")
        self.told("show all", "3")
        self.told("holds web say 1", "yes")
        self.told("drop web", "web")

    def test_drop(self):
        self.told("say path tied(x, y)", "path")
        self.told("drop path", "path")
        self.not_told(NoName, "show path")
        self.not_told(NoName, "text path")
        self.told("drop full", "full")
        self.told("drop one", "one")
        self.told("all", "/ off tie")

    def test_all(self):
        self.told("all", "one path / full off tie")
        self.assertEqual(Desk().tell("all"), "/")
        desk = Desk()
        desk.tell("web b 1")
        self.assertEqual(desk.tell("all"), "b /")
        desk.tell("web ab 1")
        desk.tell("web a 1")
        self.assertEqual(desk.tell("all"), "a ab b /")
        desk = Desk()
        desk.tell("say b same(x, x)")
        desk.tell("say a same(x, x)")
        self.assertEqual(desk.tell("all"), "/ a b")

    def test_holds(self):
        self.told("holds path tie 0 1", "yes")
        self.told("holds path tie 1 0", "yes")
        self.told("holds path tie 0 2", "no")
        self.told("holds path full", "no")
        self.told("web ring 3 0-1 1-2 2-0", "ring")
        self.told("holds ring full", "yes")

    def test_places_are_laid_on_free_names_in_their_order(self):
        self.told("say f ((tied(w, y) and same(y, y)) and not tied(w, z))", "f")
        for y, z, w in itertools.product(range(4), repeat=3):
            truth = holds(Web(4, [(0, 1), (1, 2)]), self.read_f(), {"y": y, "z": z, "w": w})
            self.told(f"holds path f {y} {z} {w}", "yes" if truth else "no")

    def read_f(self):
        return read(self.tell("text f"))

    def test_ready(self):
        self.told("ready path 0", "yes")
        self.told("ready path 1", "3 t")
        self.told("ready one 1", "0 o")
        self.told(line_of("five", square_web(5)), "five")
        self.told("ready five 1", "yes")
        self.told("ready five 2", "0 1 tt")
        self.told("ready five 3", "0 1 tt")
        self.told(line_of("great", square_web(29)), "great")
        self.told("ready great 3", "yes")

    def test_plain(self):
        self.told("plain tie", "t")
        self.told("plain off", "o")
        self.told("say f not same(x, y)", "f")
        self.told("plain f", "o t")
        self.told("plain full", "-")
        self.told("say f same(z, z)", "f")
        self.told("plain f", "-")
        self.told("say f some x tied(x, x)", "f")
        self.told("plain f", "none")
        self.told("say f tied(x, x)", "f")
        self.told("plain f", "none")

    def test_nearly_and_against(self):
        self.told("nearly full", "all")
        self.told("say f some x all y tied(x, y)", "f")
        self.told("nearly f", "none")
        self.told("against full 10", "all 5/128")
        self.told("against f 1", "none 1/1")
        self.told("say f some x same(x, x)", "f")
        self.told("against f 1000", "all 0/1")

    def test_within(self):
        self.told("within off tie", "x y o")
        self.told("within tie tie", "yes")
        self.told("say f not same(x, y)", "f")
        self.told("within tie f", "yes")
        self.told("within f tie", "x y o")
        self.told("say f tied(x, w)", "f")
        self.told("within tie f", "x y w too")
        self.told("say f marked(z)", "f")
        self.told("say g same(z, z)", "g")
        self.told("within g f", "z -")
        self.told("say f some x tied(x, x)", "f")
        self.told("within full f", "-")
        self.told("within f full", "yes")

    def test_desks_stand_apart(self):
        other = Desk()
        other.tell("web path 1")
        self.told("show path", "4 0-1 1-2")
        self.assertEqual(other.tell("all"), "path /")

    def test_the_same_asked_again(self):
        for line in ("all", "show path", "text tie", "holds path tie 0 1", "ready path 2", "plain off", "nearly full",
                     "against full 60", "within off tie"):
            self.assertEqual(self.tell(line), self.tell(line))


class AgainstTheFunctions(AtADesk):
    def test_what_a_desk_answers_is_what_the_functions_tell(self):
        dice = random.Random(163)
        formulas = FORMULAS + made_formulas(25, 8, seed=164)
        for one, other in zip(formulas, formulas[1:]):
            web = made_web(dice, dice.randint(1, 6))
            self.tell(line_of("a", web))
            self.tell(f"say f {written(one)}")
            self.tell(f"say g {written(other)}")
            names = free_names(one)
            places = [dice.randrange(web.count) for name in names]
            truth = holds(web, one, dict(zip(names, places)))
            self.told(" ".join(["holds a f", *map(str, places)]), "yes" if truth else "no")
            self.told("plain f", " ".join([way or "-" for way in plain_ways(one)]) or "none")
            gap = within(one, other)
            self.told("within f g", "yes" if gap is None else " ".join([*gap[0], gap[1] or "-"]))
            for k in range(4):
                want = ready(web, k)
                answer = "yes" if want is None else " ".join([*map(str, want[0]), want[1]])
                self.told(f"ready a {k}", answer)
            sentence = one
            for name in names:
                sentence = ("some", name, sentence)
            self.tell(f"say h {written(sentence)}")
            self.told("nearly h", nearly(sentence))
            for n in (1, 40, 1000):
                answer, (top, bottom) = against(sentence, n)
                self.told(f"against h {n}", f"{answer} {top}/{bottom}")

    def test_other_and_part(self):
        dice = random.Random(165)
        for time in range(20):
            web = made_web(dice, dice.randint(1, 20))
            self.tell(line_of("a", web))
            self.tell("other b a")
            self.assertEqual("web b " + self.tell("show b"), line_of("b", web.other()))
            places = dice.sample(range(web.count), dice.randint(1, web.count))
            self.tell(" ".join(["part c a", *map(str, places)]))
            self.assertEqual("web c " + self.tell("show c"), line_of("c", web.part(places)))

    def test_soon(self):
        with soon(self):
            self.tell(line_of("a", square_web(61)))
            self.tell("say f all z (some w (tied(w, x) and not tied(z, w)) or tied(z, y))")
            for place in range(61):
                self.tell(f"holds a f {place} 0")
            self.told("ready a 3", "yes")


class NoLines(AtADesk):
    def test_other_first_words(self):
        for line in ("", "web2 a 1", "Web a 1", "WEB a 1", "webs", "tell a", "a", "/", "-", "say2 f same(x, x)", "ALL",
                     "holdsa b", "marked", "0"):
            self.not_told(NoLine, line)

    def test_too_few_words(self):
        for line in ("web", "web a", "other", "other a", "part", "part a", "part a path", "say", "say f", "drop",
                     "show", "text", "holds", "holds path", "ready", "ready path", "plain", "nearly", "against", "against full",
                     "within", "within tie"):
            self.not_told(NoLine, line)

    def test_too_many_words(self):
        for line in ("other a path path", "drop path one", "show path one", "text tie off", "ready path 1 1",
                     "plain tie off", "nearly full full", "against full 5 5", "within tie off off", "all all", "all 1"):
            self.not_told(NoLine, line)

    def test_words_without_signs(self):
        for line in (" ", "  ", " all", "all ", " web a 1", "web a 1 ", "web  a 1", "web a  1", "web a 1  ", "web a ",
                     "web  1", "web a 4 0-1  1-2", "other a  path", "other  path", "part a path 0 ", "part a path  0",
                     "part a path ", "drop ", "drop path ", "drop  path", "show ", "show path ", "holds path tie 0 1 ",
                     "holds path full ", "holds  path tie 0 1", "holds path  full", "ready path ", "ready path 1 ",
                     "plain ", "nearly full ", "against full ", "within tie ", "within  tie", " say f same(x, x)",
                     "say  same(x, x)", "say  f same(x, x)", "say ", "say  "):
            self.not_told(NoLine, line)

    def test_it_comes_ahead_of_all_others(self):
        for line in ("web A 1 ", "other A nobody x", "part A nobody", "say A", "drop nobody nobody", "holds nobody",
                     "ready nobody 9 9", "holds nobody nobody x ", "say  A tied"):
            self.not_told(NoLine, line)


class NoWords(AtADesk):
    def test_new_names_that_are_none(self):
        for word in NO_NEW_NAMES:
            for line in (f"web {word} 1", f"other {word} path", f"part {word} path 0", f"say {word} same(x, x)"):
                self.not_told(NoWord, line)

    def test_it_comes_ahead_of_names_and_texts(self):
        for line in ("web A x", "web A 0", "web A 2 0-0", "other A nobody", "part A nobody x", "part A path 9",
                     "say A tied(", "say A "):
            self.not_told(NoWord, line)


class NoNames(AtADesk):
    def test_names_by_which_nothing_stands(self):
        for line, name in (
            ("other a nobody", "nobody"), ("part a nobody 0", "nobody"), ("drop nobody", "nobody"),
            ("show nobody", "nobody"), ("text nobody", "nobody"), ("holds nobody tie 0 1", "nobody"),
            ("holds path nobody 0 1", "nobody"), ("ready nobody 1", "nobody"), ("plain nobody", "nobody"),
            ("nearly nobody", "nobody"), ("against nobody 5", "nobody"), ("within nobody tie", "nobody"),
            ("within tie nobody", "nobody"),
        ):
            self.assertEqual(self.not_told(NoName, line).name, name, line)

    def test_words_that_are_no_names(self):
        for word in NO_NEW_NAMES:
            for line in (f"other a {word}", f"part a {word} 0", f"drop {word}", f"show {word}", f"text {word}",
                         f"holds {word} tie 0 1", f"holds path {word}", f"ready {word} 1", f"plain {word}",
                         f"nearly {word}", f"against {word} 5", f"within tie {word}"):
                self.assertEqual(self.not_told(NoName, line).name, word)

    def test_a_web_where_a_formula_is_needed_and_the_other_way_about(self):
        for line, name in (("other a tie", "tie"), ("part a tie 0", "tie"), ("show tie", "tie"), ("text path", "path"),
                           ("holds tie path", "tie"), ("holds path one", "one"), ("ready tie 1", "tie"),
                           ("plain path", "path"), ("nearly path", "path"), ("against path 5", "path"),
                           ("within path tie", "path"), ("within tie path", "path")):
            self.assertEqual(self.not_told(NoName, line).name, name, line)

    def test_from_the_left(self):
        self.assertEqual(self.not_told(NoName, "holds nobody noone").name, "nobody")
        self.assertEqual(self.not_told(NoName, "within noone nobody").name, "noone")

    def test_it_comes_ahead_of_texts(self):
        for line in ("part a nobody x", "holds nobody tie x y", "holds path nobody x", "ready nobody x",
                     "against nobody x", "against nobody 0"):
            self.assertEqual(self.not_told(NoName, line).name, "nobody")

    def test_a_name_that_was_dropped(self):
        self.tell("drop path")
        self.assertEqual(self.not_told(NoName, "drop path").name, "path")


class NoTexts(AtADesk):
    def test_numbers_that_are_none(self):
        for word in NO_NUMBERS:
            for line in (f"web a {word}", f"part a path {word}", f"part a path 0 {word} 9", f"holds path tie {word} 0",
                         f"holds path tie 0 {word}", f"ready path {word}", f"against full {word}"):
                self.assertEqual(self.not_told(NoText, line).at, 0, line)

    def test_ties_that_are_none(self):
        for word in NO_TIES:
            self.assertEqual(self.not_told(NoText, f"web a 4 {word}").at, 0, word)
            self.assertEqual(self.not_told(NoText, f"web a 4 0-1 {word} 1-2").at, 0, word)

    def test_it_comes_ahead_of_what_the_points_tell(self):
        for line in ("web a 0 x", "web a 65 0", "web a x 9-9", "web a 4 9-9 x", "part a path 9 x", "part a path 0 0 x",
                     "holds path tie x", "holds path tie 9 x", "holds path full x", "against tie x"):
            self.assertEqual(self.not_told(NoText, line).at, 0, line)

    def test_texts_of_no_formula(self):
        for text in ("tied(x,y)", "tied(x, v)", "tied(x, y", "tied(x, y) ", " tied(x, y)", "", " ", "some x", "not  x",
                     "(tied(x, y) and tied(y, z)", "x", "0", "all", "same(x, x) same(x, x)"):
            at = self.refused(NoText, read, text).at
            self.assertEqual(self.not_told(NoText, f"say f {text}").at, at, text)
            self.assertEqual(self.not_told(NoText, f"say tie {text}").at, at, text)

    def test_at_by_hand(self):
        self.assertEqual(self.not_told(NoText, "say f ").at, 0)
        self.assertEqual(self.not_told(NoText, "say f  tied(x, y)").at, 0)
        self.assertEqual(self.not_told(NoText, "say f tied(x, y) ").at, 10)
        self.assertEqual(self.not_told(NoText, "say f tied(x,y)").at, 7)


class WhatThePointsTell(AtADesk):
    def test_webs(self):
        for count in (0, 65, FORTY_FIGURES):
            self.not_told(NoCount, f"web path {count} 9-9")
        self.assertEqual(self.not_told(NoPlace, "web path 3 0-0 1-3 7-8").place, 3)
        self.assertEqual(self.not_told(NoPlace, f"web a 3 {FORTY_FIGURES}-1").place, FORTY_FIGURES)
        self.assertEqual(self.not_told(NoTie, "web path 3 0-1 2-2 1-1").place, 2)

    def test_parts(self):
        self.assertEqual(self.not_told(NoPlace, "part path path 0 4 5").place, 4)
        self.assertEqual(self.not_told(NoPlace, "part a path 0 1 0").place, 0)

    def test_holds(self):
        for line in ("holds path tie", "holds path tie 0", "holds path tie 0 1 2", "holds path tie 9",
                     "holds path full 0", "holds path tie 9 9 9"):
            self.not_told(NoCount, line)
        self.assertEqual(self.not_told(NoPlace, "holds path tie 0 4").place, 4)
        self.assertEqual(self.not_told(NoPlace, "holds path tie 7 4").place, 7)

    def test_ready(self):
        for k in (4, 5, FORTY_FIGURES):
            self.not_told(NoCount, f"ready path {k}")

    def test_nearly_and_against(self):
        self.assertEqual(self.not_told(NoSentence, "nearly tie").names, ("x", "y"))
        self.assertEqual(self.not_told(NoSentence, "against tie 0").names, ("x", "y"))
        for n in (0, 1001, FORTY_FIGURES):
            self.not_told(NoCount, f"against full {n}")

    def test_each_refusal_is_a_web_error_and_leaves_the_desk_in_use(self):
        lines = ("", "web A 1", "show nobody", "web a x", "web a 0", "holds path tie 0", "nearly tie")
        for line in lines:
            with self.assertRaises(WebError):
                self.tell(line)
        self.told("all", "one path / full off tie")


if __name__ == "__main__":
    unittest.main()
