"""Webs: places, some two of which are tied."""

from almostall.errors import NoCount, NoPlace, NoTie

MOST_PLACES = 64


def is_whole(number):
    # Python takes True and False for 1 and 0; here they are no numbers.
    return isinstance(number, int) and not isinstance(number, bool)


def is_place(number, count):
    return is_whole(number) and 0 <= number < count


def refuse_outside(number, least, most):
    if not is_whole(number) or not least <= number <= most:
        raise NoCount(f"a whole number from {least} to {most} is due")


def refuse_places(count, numbers):
    for number in numbers:
        if not is_place(number, count):
            raise NoPlace(number)


def refuse_ends(count, ties):
    for tie in ties:
        refuse_places(count, tie)


def refuse_loops(ties):
    for first, second in ties:
        if first == second:
            raise NoTie(first)


def refuse_part(count, places):
    if len(places) == 0:
        raise NoCount("a part has one place or more")
    seen = set()
    for place in places:
        if not is_place(place, count) or place in seen:
            raise NoPlace(place)
        seen.add(place)


def pairs_below(count):
    return [(low, high) for low in range(count) for high in range(low + 1, count)]


def rows_of(count, ties):
    """rows[a][b] tells whether (a, b), so and not the other way about, is among the ties."""
    rows = [[False] * count for place in range(count)]
    for a, b in ties:
        rows[a][b] = True
    return tuple([tuple(row) for row in rows])


class Web:
    """Some places, from 0 on, and which two of them are tied."""

    MARKABLE = False

    def __init__(self, count, ties):
        refuse_outside(count, 1, MOST_PLACES)
        refuse_ends(count, ties)
        refuse_loops(ties)
        self.count = count
        self.ties = tuple(sorted({(min(tie), max(tie)) for tie in ties}))
        # Formulas ask for the same ties over and over, so each answer is kept ready.
        self.rows = rows_of(count, self.ties + tuple([(v, u) for u, v in self.ties]))

    def tied(self, u, v):
        refuse_places(self.count, (u, v))
        return self.rows[u][v]

    def other(self):
        return Web(self.count, [(u, v) for u, v in pairs_below(self.count) if not self.rows[u][v]])

    def part(self, places):
        refuse_part(self.count, places)
        pairs = pairs_below(len(places))
        return Web(len(places), [(u, v) for u, v in pairs if self.rows[places[u]][places[v]]])
