"""A desk: it keeps webs and formulas by names, is told lines, and answers each with a text."""

from almostall.errors import NoCount, NoLine, NoName, NoText, NoWord
from almostall.formulas import free_names
from almostall.nearly import against, nearly
from almostall.plain import plain_ways
from almostall.ready import ready
from almostall.texts import read, written
from almostall.truth import holds
from almostall.webs import Web
from almostall.within import within

LETTERS = "abcdefghijklmnopqrstuvwxyz"
FIGURES = "0123456789"
MOST_LETTERS = 8
# How many words a line has by its first one; those that may go on have so many at least.
WORDS_DUE = {
    "web": 3, "other": 3, "part": 4, "say": 3, "drop": 2, "show": 2, "text": 2, "holds": 3, "ready": 3,
    "plain": 2, "nearly": 2, "against": 3, "within": 3, "all": 1,
}
GOING_ON = ("web", "part", "holds")


def words_of(line):
    words = line.split(" ")
    # A formula's text has blanks of its own: it is one word here, and what is wrong in it is read's to tell.
    return line.split(" ", 2) if words[0] == "say" else words


def refuse_line(words):
    if words[0] not in WORDS_DUE:
        raise NoLine("no line begins so")
    due = WORDS_DUE[words[0]]
    if len(words) < due or (len(words) > due and words[0] not in GOING_ON):
        raise NoLine("not so many words")
    if "" in (words[:2] if words[0] == "say" else words):
        raise NoLine("a word without signs")


def refuse_new(word):
    if not 1 <= len(word) <= MOST_LETTERS or not all([letter in LETTERS for letter in word]):
        raise NoWord("a new name has one to eight small letters")


def kept_by(kept, word):
    if word not in kept:
        raise NoName(word)
    return kept[word]


def number_in(word):
    figures = len(word) > 0 and all([figure in FIGURES for figure in word])
    if not figures or (word[0] == "0" and word != "0"):
        raise NoText(0)
    return int(word)


def tie_in(word):
    ends = word.split("-")
    if len(ends) != 2:
        raise NoText(0)
    return (number_in(ends[0]), number_in(ends[1]))


def numbers_in(words):
    return [number_in(word) for word in words]


def way_word(way):
    return "-" if way == "" else way


def tell_web(desk, words):
    name, count, *ties = words
    refuse_new(name)
    desk.webs[name] = Web(number_in(count), [tie_in(tie) for tie in ties])
    return name


def tell_other(desk, words):
    name, one = words
    refuse_new(name)
    desk.webs[name] = kept_by(desk.webs, one).other()
    return name


def tell_part(desk, words):
    name, one, *places = words
    refuse_new(name)
    desk.webs[name] = kept_by(desk.webs, one).part(numbers_in(places))
    return name


def tell_say(desk, words):
    name, text = words
    refuse_new(name)
    desk.formulas[name] = read(text)
    return name


def tell_drop(desk, words):
    name = words[0]
    if name not in desk.webs and name not in desk.formulas:
        raise NoName(name)
    desk.webs.pop(name, None)
    desk.formulas.pop(name, None)
    return name


def tell_show(desk, words):
    web = kept_by(desk.webs, words[0])
    return " ".join([str(web.count)] + [f"{u}-{v}" for u, v in web.ties])


def tell_text(desk, words):
    return written(kept_by(desk.formulas, words[0]))


def tell_holds(desk, words):
    one, name, *rest = words
    web = kept_by(desk.webs, one)
    formula = kept_by(desk.formulas, name)
    places = numbers_in(rest)
    names = free_names(formula)
    if len(places) != len(names):
        raise NoCount("a place for each free name is due")
    return "yes" if holds(web, formula, dict(zip(names, places))) else "no"


def tell_ready(desk, words):
    want = ready(kept_by(desk.webs, words[0]), number_in(words[1]))
    if want is None:
        return "yes"
    places, signs = want
    return " ".join([str(place) for place in places] + [signs])


def tell_plain(desk, words):
    ways = plain_ways(kept_by(desk.formulas, words[0]))
    return " ".join([way_word(way) for way in ways]) if len(ways) > 0 else "none"


def tell_nearly(desk, words):
    return nearly(kept_by(desk.formulas, words[0]))


def tell_against(desk, words):
    answer, (top, bottom) = against(kept_by(desk.formulas, words[0]), number_in(words[1]))
    return f"{answer} {top}/{bottom}"


def tell_within(desk, words):
    told = within(kept_by(desk.formulas, words[0]), kept_by(desk.formulas, words[1]))
    if told is None:
        return "yes"
    names, way = told
    return " ".join([*names, way_word(way)])


def tell_all(desk, words):
    return " ".join(sorted(desk.webs) + ["/"] + sorted(desk.formulas))


ACTIONS = {
    "web": tell_web, "other": tell_other, "part": tell_part, "say": tell_say, "drop": tell_drop,
    "show": tell_show, "text": tell_text, "holds": tell_holds, "ready": tell_ready, "plain": tell_plain,
    "nearly": tell_nearly, "against": tell_against, "within": tell_within, "all": tell_all,
}


class Desk:
    """Webs and formulas by names, and the lines that are told to it."""

    def __init__(self):
        self.webs = {}
        self.formulas = {}

    def tell(self, line):
        words = words_of(line)
        refuse_line(words)
        action = ACTIONS[words[0]]
        return action(self, words[1:])
