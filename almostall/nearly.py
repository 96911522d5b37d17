"""What nearly all webs have, and bounds for the share of those that may go against it."""

from almostall.errors import NoMark, NoSentence
from almostall.formulas import free_names, names_of
from almostall.plain import plain_ways
from almostall.ready import refuse_k
from almostall.shares import unmet_share
from almostall.webs import refuse_outside

MOST_BOUND = 1000


def refuse_free(formula):
    names = free_names(formula)
    if len(names) > 0:
        raise NoSentence(names)


def answer_of(ways):
    """What is told of a sentence that holds by these ways."""
    return "all" if ways == [""] else "none"


def nearly(sentence):
    refuse_free(sentence)
    return answer_of(plain_ways(sentence))


def bound(n, k):
    refuse_outside(n, 1, MOST_BOUND)
    refuse_k(k)
    return unmet_share(n, k, 1 << k, 1, 1 << k)


def enough(mark, k):
    mark_top, mark_bottom = mark
    if mark_top <= 0:
        raise NoMark("a mark is a fraction above 0")
    refuse_k(k)
    if k == 0 or mark_top > mark_bottom:
        return 1
    # From n = k on, where it is no less than 1, what bound tells only rises and then only falls.
    # So the first number for which it lies below a mark of at most 1 is followed by such alone.
    signs = 1 << k
    n, top, bottom = k, signs, 1
    while top * mark_bottom >= mark_top * bottom:
        n += 1
        top = top * n * (signs - 1) // (n - k)
        bottom *= signs
    return n


def against(sentence, n):
    return (nearly(sentence), bound(n, len(names_of(sentence)) - 1))
