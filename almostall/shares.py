"""Shares: fractions (top, bottom) in lowest terms, bottom from 1 on."""


def greatest_divisor(one, other):
    while other > 0:
        one, other = other, one % other
    return one


def lowest(top, bottom):
    divisor = greatest_divisor(top, bottom)
    return (top // divisor, bottom // divisor)


def at_most_one(top, bottom):
    return (1, 1) if top >= bottom else lowest(top, bottom)


def power(base, times):
    # By squares: of great numbers one factor after another would take too long.
    product = 1
    for figure in f"{times:b}":
        product *= product
        if figure == "1":
            product *= base
    return product


def choices(n, k):
    """How many sets of k places there are of n."""
    sets = 1
    for taken in range(k):
        sets = sets * (n - taken) // (taken + 1)
    return sets
