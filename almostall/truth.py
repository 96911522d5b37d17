"""Whether a formula holds in a web, and for which places."""

from almostall.cells import folded, joined, ones, reckoned, repeated, scope_with
from almostall.errors import NoName, NoPlace, TooMany
from almostall.formulas import free_names
from almostall.webs import is_place

# With so many free names, how many places a web has at most for a table of them.
MOST_PLACES_BY_NAMES = {3: 30, 4: 9}


def equal_rows(count):
    return [[False] * u + [True] + [False] * (count - 1 - u) for u in range(count)]


class PlaceBoard:
    """A web's places. A name in scope is an axis of the cells, any other name has its laid place.

    The names in scope are numbered from 0 on, and the place p on number i lifts a cell by
    p * steps[i]. So what is in scope later lies above, and goes away by folding.
    """

    def __init__(self, web, laid):
        self.count = web.count
        self.tie_grid = web.rows
        self.same_grid = equal_rows(web.count)
        self.laid = laid
        self.steps = [1]
        # The same few simple formulas stand in a formula again and again.
        self.known = {}

    def step(self, number):
        while len(self.steps) <= number:
            self.steps.append(self.steps[-1] * self.count)
        return self.steps[number]

    def every(self, scope):
        return ones(self.step(len(scope)))

    def simple(self, part, scope):
        if (part, scope) not in self.known:
            self.known[(part, scope)] = self.simple_cells(part, scope)
        return self.known[(part, scope)]

    def simple_cells(self, part, scope):
        if part[0] == "tied":
            return self.pair_cells(self.tie_grid, part[1], part[2], scope)
        if part[0] == "same":
            return self.pair_cells(self.same_grid, part[1], part[2], scope)
        # Webs have no marked places.
        return 0

    def pair_cells(self, grid, a, b, scope):
        """The cells where the grid has a truth in the row of a's place and the column of b's."""
        many = len(scope)
        if a not in scope and b not in scope:
            return self.every(scope) if grid[self.laid[a]][self.laid[b]] else 0
        if a not in scope:
            return self.line(grid[self.laid[a]], scope.index(b), many)
        if b not in scope:
            return self.line([row[self.laid[b]] for row in grid], scope.index(a), many)
        if a == b:
            return self.line([grid[u][u] for u in range(self.count)], scope.index(a), many)
        if scope.index(a) < scope.index(b):
            columns = [[row[v] for row in grid] for v in range(self.count)]
            return self.sheet(columns, scope.index(b), scope.index(a), many)
        return self.sheet(grid, scope.index(a), scope.index(b), many)

    def line(self, truths, number, many):
        """Cells over so many names that hang on the place of one of them alone."""
        full = ones(self.step(number))
        return self.stacked([full if truth else 0 for truth in truths], number, many)

    def sheet(self, grid, high, low, many):
        """Cells over so many names that hang on the places of two, the row being the higher one's."""
        return self.stacked([self.line(row, low, high) for row in grid], high, many)

    def stacked(self, blocks, number, many):
        """Cells over so many names, from one block for each place of one name over those below it."""
        width = self.step(number + 1)
        return repeated(joined(blocks, self.step(number)), width, self.step(many) // width)

    def some(self, cells, name, scope):
        number = scope_with(scope, name).index(name)
        width = self.step(number)
        cells = folded(cells, width, self.count)
        if name not in scope:
            return cells & ones(width)
        first = self.line([u == 0 for u in range(self.count)], number, len(scope))
        return repeated(cells & first, width, self.count)


def refuse_laid(count, names, laid):
    for name in names:
        if name not in laid:
            raise NoName(name)
    for name in names:
        if not is_place(laid[name], count):
            raise NoPlace(laid[name])


def holds(web, formula, laid):
    refuse_laid(web.count, free_names(formula), laid)
    return reckoned(formula, (), PlaceBoard(web, laid)) == 1


def tuples_of(count, many):
    """All tuples of so many places, rising."""
    told = [()]
    for time in range(many):
        told = [(*places, place) for places in told for place in range(count)]
    return told


def table(web, formula):
    names = free_names(formula)
    if web.count > MOST_PLACES_BY_NAMES.get(len(names), web.count):
        raise TooMany(f"a table of {len(names)} free names for {web.count} places")
    # The last name moves fastest from tuple to tuple, so it is the lowest axis.
    cells = reckoned(formula, names[::-1], PlaceBoard(web, {}))
    return [places for at, places in enumerate(tuples_of(web.count, len(names))) if (cells >> at) & 1]
