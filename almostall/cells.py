"""Formulas reckoned for all places at once.

The truths of a formula, one for each way to lay places on the names in scope, are the bits of one
whole number, its cells: a few steps on great numbers stand for thousands of small ones. A board
tells which cell is which. It has three methods: simple(part, scope), the cells of a formula with
none within it; every(scope), all cells; and some(cells, name, scope), the cells over the scope from
which a place can be laid on the name so that one of the given cells is reached, these being over
the scope with that name.
"""

from almostall.formulas import BINDING_WORDS, SIMPLE_WORDS, inner_of


def ones(many):
    return (1 << many) - 1


def bits_of(truths):
    """A bit for each truth, the first one lowest."""
    return sum([1 << at for at, truth in enumerate(truths) if truth])


def jumps_to(times):
    """Jumps by which one block grows to so many, each jump going no farther than is filled."""
    jumps = []
    filled = 1
    while filled < times:
        jumps.append(min(filled, times - filled))
        filled += jumps[-1]
    return jumps


def repeated(block, width, times):
    """The same block of so many bits, so many times side by side."""
    for jump in jumps_to(times):
        block |= block << (jump * width)
    return block


def folded(cells, width, times):
    """The lowest of so many blocks has the bits of all of them; what the others have is left open."""
    for jump in jumps_to(times):
        cells |= cells >> (jump * width)
    return cells


def joined(blocks, width):
    """Blocks of so many bits side by side, the first one lowest."""
    # By halves: one block after another would copy the growing number over and over.
    while len(blocks) > 1:
        if len(blocks) & 1:
            blocks = [*blocks, 0]
        blocks = [blocks[at] | (blocks[at + 1] << width) for at in range(0, len(blocks), 2)]
        width += width
    return blocks[0]


def tuples_of(points, many):
    """All tuples of so many of these points, the last one moving fastest."""
    told = [()]
    for time in range(many):
        told = [(*ahead, point) for ahead in told for point in points]
    return told


class Axes:
    """Cells over numbered axes with the same count of points on each, and some bits at each cell.

    The point p on axis i lifts a cell by p * step(i). So what is on a later axis lies above, and
    goes away by folding.
    """

    def __init__(self, count, width):
        self.count = count
        self.steps = [width]

    def step(self, number):
        while len(self.steps) <= number:
            self.steps.append(self.steps[-1] * self.count)
        return self.steps[number]

    def full(self, many):
        return ones(self.step(many))

    def spread(self, cells, low, many):
        """Cells over the axes below the low one, the same at each point of those from there on."""
        return repeated(cells, self.step(low), self.step(many) // self.step(low))

    def first_cells(self, number, many):
        """All cells at the first point of one axis."""
        return self.spread(self.full(number), number + 1, many)

    def line(self, truths, number, many):
        """Cells over so many axes that hang on the point on one of them alone."""
        return self.stacked([self.spread(truth, 0, number) for truth in truths], number, many)

    def sheet(self, grid, high, low, many):
        """Cells over so many axes that hang on the points on two, the row being the higher one's."""
        return self.stacked([self.line(row, low, high) for row in grid], high, many)

    def stacked(self, blocks, number, many):
        """Cells over so many axes, from one block for each point of one axis over those below it."""
        return self.spread(joined(blocks, self.step(number)), number + 1, many)


def scope_with(scope, name):
    return scope if name in scope else (*scope, name)


def parts_in_scope(formula, scope):
    """The parts of a formula, each ahead of those within it, and the names in scope at each."""
    found = []
    waiting = [(formula, scope)]
    while waiting:
        part, names = waiting.pop()
        found.append((part, names))
        if part[0] in BINDING_WORDS:
            names = scope_with(names, part[1])
        waiting.extend([(inner, names) for inner in inner_of(part)])
    return found


def reckoned(formula, scope, board):
    """The cells of a formula over the names in scope."""
    done = []
    for part, names in reversed(parts_in_scope(formula, scope)):
        word = part[0]
        if word in SIMPLE_WORDS:
            done.append(board.simple(part, names))
        elif word == "not":
            done.append(board.every(names) ^ done.pop())
        elif word == "and":
            done.append(done.pop() & done.pop())
        elif word == "or":
            done.append(done.pop() | done.pop())
        elif word == "some":
            done.append(board.some(done.pop(), part[1], names))
        else:
            done.append(all_cells(board, done.pop(), part[1], names))
    return done.pop()


def all_cells(board, cells, name, scope):
    lacking = board.every(scope_with(scope, name)) ^ cells
    return board.every(scope) ^ board.some(lacking, name, scope)
