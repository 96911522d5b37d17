"""Plain forms: in webs that are ready for three a formula holds just by the way places stand in."""

from almostall.cells import ones, reckoned
from almostall.errors import NoCount, NoName, NoWay
from almostall.formulas import NAMES, free_names, names_of
from almostall.webs import pairs_below, refuse_outside, refuse_places

MOST_NAMES = 4
# Off, same, tied: in the order of texts.
WAY_SIGNS = ("o", "s", "t")


def three_fit(first, second, third):
    """Whether three names can stand so: the first with the second, with the third, these two."""
    if first == "s":
        return second == third
    if second == "s":
        return first == third
    return third != "s" or first == second


def sign_fits(way, sign, spots):
    return all([three_fit(way[one], way[two], sign) for one, two in spots])


def all_ways(many):
    refuse_outside(many, 0, MOST_NAMES)
    pairs = pairs_below(many)
    told = [""]
    for low, high in pairs:
        # The signs that these two have with each name ahead of them stand in the way already.
        spots = [(pairs.index((name, low)), pairs.index((name, high))) for name in range(low)]
        told = [way + sign for way in told for sign in WAY_SIGNS if sign_fits(way, sign, spots)]
    return told


def sign_of(web, u, v):
    if u == v:
        return "s"
    return "t" if web.rows[u][v] else "o"


def way_of(web, places):
    if len(places) > MOST_NAMES:
        raise NoCount(f"a way is one of at most {MOST_NAMES} places")
    refuse_places(web.count, places)
    return "".join([sign_of(web, places[a], places[b]) for a, b in pairs_below(len(places))])


def signs_on(way, spots):
    return "".join([way[spot] for spot in spots])


class WayBoard:
    """The ways of some names, a cell for each. All these names are always in scope."""

    def __init__(self, names):
        self.names = names
        self.pairs = [(names[low], names[high]) for low, high in pairs_below(len(names))]
        self.ways = all_ways(len(names))
        # The same few simple formulas and names behind some and all come again and again.
        self.known = {}
        self.groups = {}

    def spots_among(self, names):
        """Where in a way of all names the signs of these names alone stand."""
        return [at for at, (a, b) in enumerate(self.pairs) if a in names and b in names]

    def every(self, scope):
        return ones(len(self.ways))

    def simple(self, part, scope):
        if part not in self.known:
            self.known[part] = self.cells_of_ways(part)
        return self.known[part]

    def cells_of_ways(self, part):
        # No place of a web is marked, and none is tied to itself.
        if part[0] == "marked":
            return 0
        if part[1] == part[2]:
            return ones(len(self.ways)) if part[0] == "same" else 0
        sign = "s" if part[0] == "same" else "t"
        spot = self.spots_among(part[1:])[0]
        return sum([1 << at for at, way in enumerate(self.ways) if way[spot] == sign])

    def some(self, cells, name, scope):
        if name not in self.groups:
            self.groups[name] = self.groups_without(name)
        return sum([group for group in self.groups[name] if group & cells])

    def groups_without(self, name):
        """The cells by how the other names stand: in a ready web each leads on to all of its group."""
        spots = self.spots_among([other for other in self.names if other != name])
        groups = {}
        for at, way in enumerate(self.ways):
            rest = signs_on(way, spots)
            groups[rest] = groups.get(rest, 0) | (1 << at)
        return list(groups.values())


def plain_ways(formula):
    names = names_of(formula)
    board = WayBoard(names)
    cells = reckoned(formula, names, board)
    spots = board.spots_among(free_names(formula))
    return sorted({signs_on(way, spots) for at, way in enumerate(board.ways) if (cells >> at) & 1})


def refuse_names(names):
    for at, name in enumerate(names):
        if name not in NAMES or name in names[:at]:
            raise NoName(name)


def refuse_ways(many, ways):
    known = all_ways(many)
    for way in ways:
        if way not in known:
            raise NoWay(way)


def joined_by(word, formulas):
    # Halved over and over, so that none lies within many others.
    while len(formulas) > 1:
        last = formulas[-1:] if len(formulas) & 1 else []
        formulas = [(word, formulas[at], formulas[at + 1]) for at in range(0, len(formulas) - 1, 2)] + last
    return formulas[0]


def sign_formula(sign, a, b):
    if sign == "s":
        return ("same", a, b)
    if sign == "t":
        return ("tied", a, b)
    return ("not", ("or", ("same", a, b), ("tied", a, b)))


def way_formula(names, way):
    pairs = pairs_below(len(names))
    return joined_by("and", [sign_formula(sign, names[a], names[b]) for (a, b), sign in zip(pairs, way)])


def plain_formula(names, ways):
    refuse_names(names)
    refuse_ways(len(names), ways)
    name = names[0] if len(names) > 0 else NAMES[0]
    if len(ways) == 0:
        return ("not", ("same", name, name))
    if len(names) < 2:
        return ("same", name, name)
    return joined_by("or", [way_formula(names, way) for way in sorted(set(ways))])
