"""Ready webs: each want of a few places is met in them."""

from almostall.cells import ones
from almostall.errors import NoPlace, NoPrime, NoWant
from almostall.webs import Web, is_place, pairs_below, refuse_outside

# In the order of texts.
SIGNS = ("o", "t")
MOST_READY = 3
SQUARE_PRIMES = (5, 13, 17, 29, 37, 41, 53, 61)
TOLD_PRIMES = {1: 5, 2: 13, 3: 29}


def refuse_k(k):
    refuse_outside(k, 0, MOST_READY)


def refuse_want(count, places, signs):
    for at, place in enumerate(places):
        if not is_place(place, count) or (at > 0 and place <= places[at - 1]):
            raise NoPlace(place)
    if len(signs) != len(places) or not all([sign in SIGNS for sign in signs]):
        raise NoWant("a want has a sign, t or o, for each of its places")


def side(web, place, sign):
    """Bits for those other places that stand to a place as a sign asks."""
    asked = sign == "t"
    row = web.rows[place]
    return sum([1 << other for other in range(web.count) if other != place and row[other] == asked])


def least_bit(bits):
    return (bits & -bits).bit_length() - 1 if bits else None


def met(web, want):
    places, signs = want
    refuse_want(web.count, places, signs)
    left = ones(web.count)
    for place, sign in zip(places, signs):
        left &= side(web, place, sign)
    return least_bit(left)


def rising_tuples(count, many):
    """All tuples of so many unlike places, each rising, in order."""
    told = [()]
    for time in range(many):
        told = [(*places, place) for places in told for place in range(places[-1] + 1 if places else 0, count)]
    return told


def left_by_signs(sides, places, left):
    """Bits for the places that meet the want of these places, for each choice of signs in order."""
    choices = [left]
    for place in places:
        choices = [bits & chosen for bits in choices for chosen in sides[place]]
    return choices


def signs_numbered(number, many):
    return "".join([SIGNS[(number >> (many - 1 - at)) & 1] for at in range(many)])


def ready(web, k):
    refuse_k(k)
    sides = [[side(web, place, sign) for sign in SIGNS] for place in range(web.count)]
    for many in range(k + 1):
        for places in rising_tuples(web.count, many):
            choices = left_by_signs(sides, places, ones(web.count))
            if 0 in choices:
                return (places, signs_numbered(choices.index(0), many))
    return None


def square_web(prime):
    if prime not in SQUARE_PRIMES:
        raise NoPrime("a prime from 5 to 61 that leaves 1 divided by 4 is due")
    squares = [number * number % prime for number in range(prime)]
    return Web(prime, [(u, v) for u, v in pairs_below(prime) if v - u in squares])


def told_web(k):
    refuse_k(k)
    return Web(1, []) if k == 0 else square_web(TOLD_PRIMES[k])
