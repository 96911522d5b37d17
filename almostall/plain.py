"""Plain forms: in webs that are ready for three a formula holds just by the way places stand in."""

from almostall.errors import NoCount, NoName, NoWay
from almostall.formulas import NAMES
from almostall.standing import MOST_NAMES, ways_of, ways_that_hold
from almostall.webs import pairs_below, refuse_places


def all_ways(many):
    return ways_of(many, False)


def sign_of(web, u, v):
    if u == v:
        return "s"
    return "t" if web.rows[u][v] else "o"


def way_of(web, places):
    if len(places) > MOST_NAMES:
        raise NoCount(f"a way is one of at most {MOST_NAMES} places")
    refuse_places(web.count, places)
    return "".join([sign_of(web, places[a], places[b]) for a, b in pairs_below(len(places))])


def plain_ways(formula):
    return ways_that_hold(formula, False)


def refuse_names(names):
    for at, name in enumerate(names):
        if name not in NAMES or name in names[:at]:
            raise NoName(name)


def refuse_ways(many, ways):
    known = all_ways(many)
    for way in ways:
        if way not in known:
            raise NoWay(way)


def joined_by(word, formulas):
    # Halved over and over, so that none lies within many others.
    while len(formulas) > 1:
        last = formulas[-1:] if len(formulas) & 1 else []
        formulas = [(word, formulas[at], formulas[at + 1]) for at in range(0, len(formulas) - 1, 2)] + last
    return formulas[0]


def sign_formula(sign, a, b):
    if sign == "s":
        return ("same", a, b)
    if sign == "t":
        return ("tied", a, b)
    return ("not", ("or", ("same", a, b), ("tied", a, b)))


def way_formula(names, way):
    pairs = pairs_below(len(names))
    return joined_by("and", [sign_formula(sign, names[a], names[b]) for (a, b), sign in zip(pairs, way)])


def plain_formula(names, ways):
    refuse_names(names)
    refuse_ways(len(names), ways)
    name = names[0] if len(names) > 0 else NAMES[0]
    if len(ways) == 0:
        return ("not", ("same", name, name))
    if len(names) < 2:
        return ("same", name, name)
    return joined_by("or", [way_formula(names, way) for way in sorted(set(ways))])
