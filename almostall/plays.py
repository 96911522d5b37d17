"""Plays over two webs, by a doubter who would tell them apart and a keeper who would not let it."""

from almostall.cells import Axes, repeated, tuples_of
from almostall.errors import NoPosition
from almostall.webs import is_whole, refuse_outside

MOST_PLAYED = 5
MOST_PLAY_NAMES = 3


def refuse_play(one, other, many):
    refuse_outside(one.count, 1, MOST_PLAYED)
    refuse_outside(other.count, 1, MOST_PLAYED)
    refuse_outside(many, 1, MOST_PLAY_NAMES)


def entries_agree(one, other, entry, second):
    if entry == () or second == ():
        return True
    a, b = entry
    c, d = second
    return (a == c) == (b == d) and one.rows[a][c] == other.rows[b][d]


def all_choices(one, other):
    """The doubter's choices, each as the entries that the keeper can make of it.

    With each stands whether the doubter's place is one of the first web.
    """
    firsts = [(True, [(a, b) for b in range(other.count)]) for a in range(one.count)]
    return firsts + [(False, [(a, b) for a in range(one.count)]) for b in range(other.count)]


class Play:
    """All positions of a play at once, a bit of a whole number for each.

    Each name is an axis with its entries as points, the last name the lowest one: so the bits stand
    in the order of positions.
    """

    def __init__(self, one, other, many):
        refuse_play(one, other, many)
        self.many = many
        self.entries = [()] + [(a, b) for a in range(one.count) for b in range(other.count)]
        self.points = {entry: point for point, entry in enumerate(self.entries)}
        self.axes = Axes(len(self.entries), 1)
        self.choices = all_choices(one, other)
        self.losses = self.all_losses(one, other)

    def disagreeing(self, one, other):
        grid = [[not entries_agree(one, other, entry, second) for second in self.entries] for entry in self.entries]
        lost = 0
        for high in range(self.many):
            for low in range(high):
                lost |= self.axes.sheet(grid, high, low, self.many)
        return lost

    def all_losses(self, one, other):
        """The positions lost in 0 rounds, in at most 1, and on and on until none is added."""
        told = []
        lost = self.disagreeing(one, other)
        while lost not in told:
            told.append(lost)
            for number in range(self.many):
                lost |= self.doubted(told[-1], number)
        return told

    def doubted(self, lost, number):
        """The positions from which the doubter, taking the name of an axis, surely reaches lost ones."""
        width = self.axes.step(number)
        found = 0
        for by_first, entries in self.choices:
            every_reply = self.axes.first_cells(number, self.many)
            for entry in entries:
                every_reply &= lost >> (self.points[entry] * width)
            found |= every_reply
        # What was laid for the name goes, so it doesn't matter what that was.
        return repeated(found, width, len(self.entries))

    def cell(self, position):
        cell = 0
        for entry in position:
            cell = cell * len(self.entries) + self.points[entry]
        return cell

    def rounds(self, position):
        cell = self.cell(position)
        for rounds, lost in enumerate(self.losses):
            if (lost >> cell) & 1:
                return rounds
        return None

    def winning(self, position):
        """A name's number, whose place is taken, and replies that are all lost in fewer rounds."""
        lost = self.losses[self.rounds(position) - 1]
        for at in range(self.many):
            for by_first, entries in self.choices:
                replies = [position[:at] + (entry,) + position[at + 1:] for entry in entries]
                if all([(lost >> self.cell(reply)) & 1 for reply in replies]):
                    return (at, by_first, replies)
        return None


def kept_positions(one, other, many):
    play = Play(one, other, many)
    lost = play.losses[-1]
    positions = tuples_of(play.entries, many)
    return [position for at, position in enumerate(positions) if not (lost >> at) & 1]


def refuse_position(play, position):
    if not isinstance(position, tuple) or len(position) != play.many:
        raise NoPosition("a position is a tuple with an entry for each name")
    for entry in position:
        if entry not in play.entries or not all([is_whole(place) for place in entry]):
            raise NoPosition("an entry of a position is () or a place of either web")


def rounds_of(one, other, many, position):
    play = Play(one, other, many)
    refuse_position(play, position)
    return play.rounds(position)
