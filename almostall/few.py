"""Webs of few places, gone through one by one, and shares of them by a chance."""

from almostall.cells import bits_of, reckoned
from almostall.errors import NoChance
from almostall.nearly import MOST_BOUND, refuse_free
from almostall.ready import refuse_k
from almostall.shares import lowest, power, unmet_share
from almostall.truth import PlaceBoard
from almostall.webs import Web, pairs_below, refuse_outside

MOST_FEW = 5


def refuse_chance(chance):
    top, bottom = chance
    if bottom < 1 or not bottom <= 4 * top <= 3 * bottom:
        raise NoChance("a chance is a fraction from 1/4 to 3/4")


def ties_of_all(count):
    """The ties of each web of so many places: the fewer ties first, then the lesser ones."""
    told = [()]
    for pair in pairs_below(count):
        told = told + [(*ties, pair) for ties in told]
    return sorted(told, key=lambda ties: (len(ties), ties))


def grid_of(count, webs):
    """At each two places a bit for each of the webs: whether these two are tied in it."""
    grid = [[0] * count for place in range(count)]
    for low, high in pairs_below(count):
        grid[low][high] = bits_of([(low, high) in ties for ties in webs])
        grid[high][low] = grid[low][high]
    return grid


def webs_with(sentence, count):
    """The ties of each web of so many places that has the sentence, in the order of ties_of_all."""
    webs = ties_of_all(count)
    cells = reckoned(sentence, (), PlaceBoard(len(webs), grid_of(count, webs), [0] * count, {}))
    return [ties for at, ties in enumerate(webs) if (cells >> at) & 1]


def counted_share(sentence, n, chance):
    refuse_free(sentence)
    refuse_outside(n, 1, MOST_FEW)
    refuse_chance(chance)
    tied, bottom = chance
    pairs = len(pairs_below(n))
    # Webs with as many ties have the same share.
    shares = [power(tied, many) * power(bottom - tied, pairs - many) for many in range(pairs + 1)]
    return lowest(sum([shares[len(ties)] for ties in webs_with(sentence, n)]), power(bottom, pairs))


def least_web(sentence, n):
    refuse_free(sentence)
    refuse_outside(n, 1, MOST_FEW)
    for count in range(1, n + 1):
        found = webs_with(sentence, count)
        if len(found) > 0:
            return Web(count, found[0])
    return None


def chance_bound(n, k, chance):
    refuse_outside(n, 1, MOST_BOUND)
    refuse_k(k)
    refuse_chance(chance)
    tied, bottom = lowest(chance[0], chance[1])
    return unmet_share(n, k, 1 << k, power(min(tied, bottom - tied), k), power(bottom, k))
