"""Ready webs: each want of a few places is met in them. Ladders and marked webs may be asked, too."""

from almostall.cells import bits_of, ones
from almostall.errors import NoPlace, NoPrime, NoWant
from almostall.standing import marked_row
from almostall.webs import Web, is_place, pairs_below, refuse_outside

# In the order of texts: off (in a ladder, behind) and tied (ahead); marked and unmarked.
SIGNS = ("o", "t")
MARK_SIGNS = ("m", "u")
MOST_READY = 3
MOST_READY_MARKED = 2
SQUARE_PRIMES = (5, 13, 17, 29, 37, 41, 53, 61)
TOLD_PRIMES = {1: 5, 2: 13, 3: 29}


def refuse_k(k):
    refuse_outside(k, 0, MOST_READY)


def refuse_k_marked(k):
    refuse_outside(k, 0, MOST_READY_MARKED)


def signs_due(web, many):
    """For a want of so many places, the two signs that can stand at each spot."""
    return [SIGNS] * many + ([MARK_SIGNS] if web.MARKABLE else [])


def refuse_want(web, places, signs):
    for at, place in enumerate(places):
        if not is_place(place, web.count) or (at > 0 and place <= places[at - 1]):
            raise NoPlace(place)
    due = signs_due(web, len(places))
    if len(signs) != len(due) or not all([sign in pair for sign, pair in zip(signs, due)]):
        raise NoWant("a want has a sign, t or o, for each of its places, and m or u for a marked web")


def sides(web, place):
    """Bits for the other places that meet a place's sign, for each of the signs in order."""
    met_by = bits_of([row[place] for row in web.rows])
    return [ones(web.count) ^ (1 << place) ^ met_by, met_by]


def mark_sides(web):
    """Bits for the places that meet a last sign, for each of the signs in order; none without marks."""
    marked = bits_of(marked_row(web))
    return [[marked, ones(web.count) ^ marked]] if web.MARKABLE else []


def least_bit(bits):
    return (bits & -bits).bit_length() - 1 if bits else None


def met(web, want):
    places, signs = want
    refuse_want(web, places, signs)
    left = ones(web.count)
    spots = [sides(web, place) for place in places] + mark_sides(web)
    for sign, pair, chosen in zip(signs, signs_due(web, len(places)), spots):
        left &= chosen[pair.index(sign)]
    return least_bit(left)


def rising_tuples(count, many):
    """All tuples of so many unlike places, each rising, in order."""
    told = [()]
    for time in range(many):
        told = [(*places, place) for places in told for place in range(places[-1] + 1 if places else 0, count)]
    return told


def left_by_signs(spots, left):
    """Bits for the places that meet a want of these spots, for each choice of signs in order."""
    choices = [left]
    for chosen in spots:
        choices = [bits & side for bits in choices for side in chosen]
    return choices


def signs_numbered(number, due):
    return "".join([pair[(number >> (len(due) - 1 - at)) & 1] for at, pair in enumerate(due)])


def ready(web, k):
    if web.MARKABLE:
        refuse_k_marked(k)
    else:
        refuse_k(k)
    spots = [sides(web, place) for place in range(web.count)]
    last = mark_sides(web)
    for many in range(k + 1):
        for places in rising_tuples(web.count, many):
            choices = left_by_signs([spots[place] for place in places] + last, ones(web.count))
            if 0 in choices:
                return (places, signs_numbered(choices.index(0), signs_due(web, many)))
    return None


def squares_left(prime):
    """What the squares of whole numbers leave, divided by the prime."""
    return [number * number % prime for number in range(prime)]


def square_web(prime):
    if prime not in SQUARE_PRIMES:
        raise NoPrime("a prime from 5 to 61 that leaves 1 divided by 4 is due")
    squares = squares_left(prime)
    return Web(prime, [(u, v) for u, v in pairs_below(prime) if v - u in squares])


def told_web(k):
    refuse_k(k)
    return Web(1, []) if k == 0 else square_web(TOLD_PRIMES[k])
