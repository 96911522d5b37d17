"""Shares: fractions (top, bottom) in lowest terms, bottom from 1 on."""


def greatest_divisor(one, other):
    while other > 0:
        one, other = other, one % other
    return one


def lowest(top, bottom):
    divisor = greatest_divisor(top, bottom)
    return (top // divisor, bottom // divisor)


def power(base, times):
    # By squares: of great numbers one factor after another would take too long.
    product = 1
    for figure in f"{times:b}":
        product *= product
        if figure == "1":
            product *= base
    return product


def choices(n, k):
    """How many sets of k places there are of n."""
    sets = 1
    for taken in range(k):
        sets = sets * (n - taken) // (taken + 1)
    return sets


def unmet_share(n, k, wants, least, whole):
    """A bound for the share, among all of n places, of those in which some want of k places isn't met.

    There are so many wants of each k places, and each other place meets one by a chance of least
    by whole or more, a fraction in lowest terms.
    """
    if n < k:
        return (1, 1)
    # Such a fraction, 1 less it, and the powers of this are all in lowest terms: what can be divided
    # away is in the small number ahead alone, and great numbers need not be searched for it.
    ahead, below = lowest(choices(n, k) * wants, power(whole, n - k))
    top = ahead * power(whole - least, n - k)
    return (1, 1) if top >= below else (top, below)
