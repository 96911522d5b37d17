"""Whether a formula holds in a web, a ladder or a marked web, and for which places."""

from almostall.cells import Axes, folded, ones, reckoned, repeated, scope_with, tuples_of
from almostall.errors import NoName, NoPlace, TooMany
from almostall.formulas import free_names
from almostall.standing import marked_row
from almostall.webs import is_place

# With so many free names, how many places a web has at most for a table of them.
MOST_PLACES_BY_NAMES = {3: 30, 4: 9}


def equal_grid(count, full):
    return [[0] * u + [full] + [0] * (count - 1 - u) for u in range(count)]


class PlaceBoard(Axes):
    """The places of one web, or of so many webs at once that have the same places.

    A name in scope is an axis of the cells, any other name has its laid place. The grid has at each
    two places a bit for each of the webs: whether these two are tied in it, or the first one ahead
    of the second. The row has at each place such bits, too: whether it is marked.
    """

    def __init__(self, width, tie_grid, mark_row, laid):
        super().__init__(len(tie_grid), width)
        self.tie_grid = tie_grid
        self.same_grid = equal_grid(len(tie_grid), ones(width))
        self.mark_row = mark_row
        self.laid = laid
        # The same few simple formulas stand in a formula again and again.
        self.known = {}

    def every(self, scope):
        return self.full(len(scope))

    def simple(self, part, scope):
        if (part, scope) not in self.known:
            self.known[(part, scope)] = self.simple_cells(part, scope)
        return self.known[(part, scope)]

    def simple_cells(self, part, scope):
        if part[0] == "tied":
            return self.pair_cells(self.tie_grid, part[1], part[2], scope)
        if part[0] == "same":
            return self.pair_cells(self.same_grid, part[1], part[2], scope)
        return self.mark_cells(part[1], scope)

    def mark_cells(self, a, scope):
        if a not in scope:
            return self.spread(self.mark_row[self.laid[a]], 0, len(scope))
        return self.line(self.mark_row, scope.index(a), len(scope))

    def pair_cells(self, grid, a, b, scope):
        """The cells where the grid has a truth in the row of a's place and the column of b's."""
        many = len(scope)
        if a not in scope and b not in scope:
            return self.spread(grid[self.laid[a]][self.laid[b]], 0, many)
        if a not in scope:
            return self.line(grid[self.laid[a]], scope.index(b), many)
        if b not in scope:
            return self.line([row[self.laid[b]] for row in grid], scope.index(a), many)
        if a == b:
            return self.line([grid[u][u] for u in range(self.count)], scope.index(a), many)
        if scope.index(a) < scope.index(b):
            columns = [[row[v] for row in grid] for v in range(self.count)]
            return self.sheet(columns, scope.index(b), scope.index(a), many)
        return self.sheet(grid, scope.index(a), scope.index(b), many)

    def some(self, cells, name, scope):
        number = scope_with(scope, name).index(name)
        width = self.step(number)
        cells = folded(cells, width, self.count)
        if name not in scope:
            return cells & ones(width)
        return repeated(cells & self.first_cells(number, len(scope)), width, self.count)


def board_of(web, laid):
    return PlaceBoard(1, web.rows, marked_row(web), laid)


def refuse_laid(count, names, laid):
    for name in names:
        if name not in laid:
            raise NoName(name)
    for name in names:
        if not is_place(laid[name], count):
            raise NoPlace(laid[name])


def holds(web, formula, laid):
    refuse_laid(web.count, free_names(formula), laid)
    return reckoned(formula, (), board_of(web, laid)) == 1


def table(web, formula):
    names = free_names(formula)
    if web.count > MOST_PLACES_BY_NAMES.get(len(names), web.count):
        raise TooMany(f"a table of {len(names)} free names for {web.count} places")
    # The last name moves fastest from tuple to tuple, so it is the lowest axis.
    cells = reckoned(formula, names[::-1], board_of(web, {}))
    rows = tuples_of(list(range(web.count)), len(names))
    return [places for at, places in enumerate(rows) if (cells >> at) & 1]
