"""How places, and the names that they are laid on, stand to one another.

Webs, ladders and marked webs alike have rows: rows[u][v] tells whether u is tied to v or, in a
ladder, ahead of it. The class value MARKABLE tells of which of them marks are told, too.

A way has a sign for each two names, in their order: s, t or o. Where ties go one way, as in
ladders, t says that the first of the two is ahead, and o that the second one is.
"""

from almostall.cells import bits_of, ones, reckoned
from almostall.formulas import free_names, names_of
from almostall.webs import pairs_below, refuse_outside

MOST_NAMES = 4
# Off, same, tied: in the order of texts.
WAY_SIGNS = ("o", "s", "t")


def marked_row(web):
    """Of each place whether it is marked."""
    marks = web.marks if web.MARKABLE else ()
    return [place in marks for place in range(web.count)]


def turned(sign, one_way):
    """The sign of two names when they are taken the other way about."""
    if sign == "s" or not one_way:
        return sign
    return "o" if sign == "t" else "t"


def three_fit(first, second, third, one_way):
    """Whether three names can stand so: the first with the second, with the third, these two."""
    if first == "s":
        return second == third
    if second == "s":
        return first == turned(third, one_way)
    return third != "s" or first == second


def sign_fits(way, sign, spots, one_way):
    return all([three_fit(way[one], way[two], sign, one_way) for one, two in spots])


def ways_of(many, one_way):
    """All ways of so many names, in the order of texts."""
    refuse_outside(many, 0, MOST_NAMES)
    pairs = pairs_below(many)
    told = [""]
    for low, high in pairs:
        # The signs that these two have with each name ahead of them stand in the way already.
        spots = [(pairs.index((name, low)), pairs.index((name, high))) for name in range(low)]
        told = [way + sign for way in told for sign in WAY_SIGNS if sign_fits(way, sign, spots, one_way)]
    return told


def signs_on(way, spots):
    return "".join([way[spot] for spot in spots])


class WayBoard:
    """The ways of some names, a cell for each. All these names are always in scope."""

    def __init__(self, names, one_way):
        self.names = names
        self.one_way = one_way
        self.pairs = [(names[low], names[high]) for low, high in pairs_below(len(names))]
        self.ways = ways_of(len(names), one_way)
        # The same few simple formulas and names behind some and all come again and again.
        self.known = {}
        self.groups = {}

    def spots_among(self, names):
        """Where in a way of all names the signs of these names alone stand."""
        return [at for at, (a, b) in enumerate(self.pairs) if a in names and b in names]

    def every(self, scope):
        return ones(len(self.ways))

    def simple(self, part, scope):
        if part not in self.known:
            self.known[part] = self.cells_of_ways(part)
        return self.known[part]

    def cells_of_ways(self, part):
        # Ways tell nothing of marks: no place of a web or of a ladder is marked.
        if part[0] == "marked":
            return 0
        # And no place is tied to itself.
        if part[1] == part[2]:
            return ones(len(self.ways)) if part[0] == "same" else 0
        sign = "s" if part[0] == "same" else "t"
        spot = self.spots_among(part[1:])[0]
        if self.pairs[spot] != part[1:]:
            sign = turned(sign, self.one_way)
        return bits_of([way[spot] == sign for way in self.ways])

    def some(self, cells, name, scope):
        if name not in self.groups:
            self.groups[name] = self.groups_without(name)
        return sum([group for group in self.groups[name] if group & cells])

    def groups_without(self, name):
        """The cells by how the other names stand: where all is ready each leads on to all of its group."""
        spots = self.spots_among([other for other in self.names if other != name])
        groups = {}
        for at, way in enumerate(self.ways):
            rest = signs_on(way, spots)
            groups[rest] = groups.get(rest, 0) | (1 << at)
        return list(groups.values())


def ways_that_hold(formula, one_way):
    """The ways of its free names, in order, by which a formula holds where all is ready for three."""
    names = names_of(formula)
    board = WayBoard(names, one_way)
    cells = reckoned(formula, names, board)
    spots = board.spots_among(free_names(formula))
    return sorted({signs_on(way, spots) for at, way in enumerate(board.ways) if (cells >> at) & 1})
