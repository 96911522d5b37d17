"""Marked webs: webs of which some places are marked."""

from almostall.errors import TooMany
from almostall.formulas import names_of
from almostall.nearly import MOST_BOUND, refuse_free
from almostall.ready import refuse_k_marked, square_web
from almostall.shares import unmet_share
from almostall.truth import holds
from almostall.webs import Web, refuse_outside, refuse_places

TOLD_MARKED_PRIMES = {1: 13, 2: 29}
MOST_MARKED_NAMES = 3


class MarkedWeb:
    """Some places, from 0 on, which two of them are tied, and which are marked."""

    MARKABLE = True

    def __init__(self, count, ties, marks):
        web = Web(count, ties)
        refuse_places(count, marks)
        self.count = count
        self.ties = web.ties
        self.rows = web.rows
        self.marks = tuple(sorted(set(marks)))


def told_marked(k):
    refuse_k_marked(k)
    if k == 0:
        return MarkedWeb(2, [], [1])
    web = square_web(TOLD_MARKED_PRIMES[k])
    others = list(range(1, web.count))
    return MarkedWeb(len(others), web.part(others).ties, [at for at, place in enumerate(others) if web.tied(0, place)])


def marked_nearly(sentence):
    refuse_free(sentence)
    if len(names_of(sentence)) > MOST_MARKED_NAMES:
        raise TooMany(f"a sentence of at most {MOST_MARKED_NAMES} names is due")
    return "all" if holds(told_marked(2), sentence, {}) else "none"


def marked_bound(n, k):
    refuse_outside(n, 1, MOST_BOUND)
    refuse_k_marked(k)
    # One sign more than in a want of a web without marks.
    return unmet_share(n, k, 2 << k, 1, 2 << k)
