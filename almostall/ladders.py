"""Ladders: of each two places the one is ahead of the other."""

from almostall.errors import NoPair, NoPrime, NoTie
from almostall.nearly import answer_of, refuse_free
from almostall.plain import way_of
from almostall.ready import refuse_k, squares_left
from almostall.standing import ways_that_hold
from almostall.webs import MOST_PLACES, pairs_below, refuse_ends, refuse_outside, refuse_part, rows_of

LADDER_PRIMES = (3, 7, 11, 19, 23, 31, 43, 47, 59)
TOLD_LADDER_PRIMES = {1: 3, 2: 7, 3: 19}


def refuse_again(ties):
    seen = set()
    for a, b in ties:
        pair = (min(a, b), max(a, b))
        if a == b or pair in seen:
            raise NoTie(a)
        seen.add(pair)


def refuse_gaps(rows):
    for u, v in pairs_below(len(rows)):
        if not rows[u][v] and not rows[v][u]:
            raise NoPair((u, v))


class Ladder:
    """Some places, from 0 on, and of each two which one is ahead."""

    MARKABLE = False

    def __init__(self, count, ties):
        refuse_outside(count, 1, MOST_PLACES)
        refuse_ends(count, ties)
        refuse_again(ties)
        self.count = count
        self.ties = tuple(sorted(ties))
        self.rows = rows_of(count, self.ties)
        refuse_gaps(self.rows)

    def part(self, places):
        refuse_part(self.count, places)
        spots = list(range(len(places)))
        return Ladder(len(places), [(a, b) for a in spots for b in spots if self.rows[places[a]][places[b]]])


def square_ladder(prime):
    if prime not in LADDER_PRIMES:
        raise NoPrime("a prime from 3 to 59 that leaves 3 divided by 4 is due")
    squares = squares_left(prime)
    pairs = [(a, b) for a in range(prime) for b in range(prime) if a != b]
    return Ladder(prime, [(a, b) for a, b in pairs if (b - a) % prime in squares])


def told_ladder(k):
    refuse_k(k)
    return Ladder(1, []) if k == 0 else square_ladder(TOLD_LADDER_PRIMES[k])


def ladder_way(ladder, places):
    return way_of(ladder, places)


def ladder_plain(formula):
    return ways_that_hold(formula, True)


def ladder_nearly(sentence):
    refuse_free(sentence)
    return answer_of(ladder_plain(sentence))
