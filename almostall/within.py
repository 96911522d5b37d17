"""Whether one formula lies within another, and where it doesn't."""

from almostall.formulas import free_names
from almostall.plain import plain_ways, refuse_ways, way_of
from almostall.ready import told_web
from almostall.standing import MOST_NAMES
from almostall.webs import pairs_below, refuse_outside


def within(one, other):
    # Where this holds the one does and the other doesn't, and its free names are those of both.
    gap = ("and", one, ("not", other))
    ways = plain_ways(gap)
    return (free_names(gap), ways[0]) if len(ways) > 0 else None


def way_ahead(way, pairs, many):
    """The signs that the first so many names have with one another."""
    return "".join([sign for sign, (low, high) in zip(way, pairs) if high < many])


def least_next(web, places, way):
    """The least place that stands, behind these places, in a way of one name more."""
    return min([place for place in range(web.count) if way_of(web, (*places, place)) == way])


def shown_at(way, many):
    refuse_outside(many, 1, MOST_NAMES)
    refuse_ways(many, [way])
    web = told_web(3)
    pairs = pairs_below(many)
    # The told web is ready for three, so places that stand in the signs ahead can always be gone on
    # from: taking the least place each time leads to the first tuple.
    places = ()
    for name in range(many):
        places = (*places, least_next(web, places, way_ahead(way, pairs, name + 1)))
    return places
