"""Truth, wants and ways word by word as the document tells them, slowly: what answers are held against."""

import itertools


def holds_by_rule(web, formula, laid):
    """Point 10."""
    word, *rest = formula
    if word == "tied":
        return tuple(sorted((laid[rest[0]], laid[rest[1]]))) in web.ties
    if word == "same":
        return laid[rest[0]] == laid[rest[1]]
    if word == "marked":
        return False
    if word == "not":
        return not holds_by_rule(web, rest[0], laid)
    if word == "and":
        return holds_by_rule(web, rest[0], laid) and holds_by_rule(web, rest[1], laid)
    if word == "or":
        return holds_by_rule(web, rest[0], laid) or holds_by_rule(web, rest[1], laid)
    found = [holds_by_rule(web, rest[1], {**laid, rest[0]: place}) for place in range(web.count)]
    return any(found) if word == "some" else all(found)


def both_ways(ties):
    return {*ties, *[(v, u) for u, v in ties]}


def meeting_places(web, places, signs):
    """Point 12: all places that meet a want."""
    ties = both_ways(web.ties)
    return [place for place in range(web.count) if meets(place, places, signs, ties)]


def meets(place, places, signs, ties):
    return place not in places and all(((place, other) in ties) == (sign == "t")
                                       for other, sign in zip(places, signs))


def unmet_wants(web, k):
    """Points 12 and 13: all wants of at most k places that aren't met, in order."""
    wants = [(len(places), places, "".join(signs)) for many in range(k + 1)
             for places in itertools.combinations(range(web.count), many)
             for signs in itertools.product("to", repeat=many)]
    ties = both_ways(web.ties)
    return [(places, signs) for many, places, signs in sorted(wants)
            if not any(meets(place, places, signs, ties) for place in range(web.count))]


def is_way(text, many):
    """Point 15, each two names and each third one."""
    pairs = list(itertools.combinations(range(many), 2))
    if len(text) != len(pairs) or not set(text) <= set("sto"):
        return False
    sign = dict(zip(pairs, text))
    sign.update({(b, a): sign[a, b] for a, b in pairs})
    return all(sign[a, c] == sign[b, c] for a, b in pairs if sign[a, b] == "s"
               for c in range(many) if c not in (a, b))


def ways_by_rule(many):
    length = many * (many - 1) // 2
    return sorted(text for text in map("".join, itertools.product("sto", repeat=length)) if is_way(text, many))


def way_by_rule(web, places):
    def sign(u, v):
        return "s" if u == v else "t" if tuple(sorted((u, v))) in web.ties else "o"

    return "".join(sign(u, v) for u, v in itertools.combinations(places, 2))


def holds_when_ready(formula, laid, ties):
    """Point 16: whether it holds where one more place is tied as one likes.

    laid tells what lies on the names; ties is a set of frozen pairs of these. Behind some and all
    each of the others' places is taken, and a new one in each way it can be tied to them.
    """
    word, *rest = formula
    if word == "tied":
        return frozenset((laid[rest[0]], laid[rest[1]])) in ties
    if word == "same":
        return laid[rest[0]] == laid[rest[1]]
    if word == "marked":
        return False
    if word == "not":
        return not holds_when_ready(rest[0], laid, ties)
    if word in ("and", "or"):
        found = [holds_when_ready(inner, laid, ties) for inner in rest]
        return all(found) if word == "and" else any(found)
    others = sorted({laid[name] for name in laid if name != rest[0]})
    found = [holds_when_ready(rest[1], {**laid, rest[0]: place}, ties) for place in others]
    new = max(others, default=0) + 1
    kept = {pair for pair in ties if pair <= set(others)}
    for chosen in itertools.product((False, True), repeat=len(others)):
        more = {frozenset((new, other)) for other, tied in zip(others, chosen) if tied}
        found.append(holds_when_ready(rest[1], {**laid, rest[0]: new}, kept | more))
    return any(found) if word == "some" else all(found)


def plain_ways_by_rule(formula, names):
    """Point 16: the ways of the free names, in order, by which it holds where a web is ready enough."""
    found = []
    for way in ways_by_rule(len(names)):
        sign = dict(zip(itertools.combinations(range(len(names)), 2), way))
        # Names that stand alike have the first one's number as their place.
        place = [min([a for a in range(at) if sign[a, at] == "s"], default=at) for at in range(len(names))]
        ties = {frozenset((place[a], place[b])) for a, b in sign if sign[a, b] == "t"}
        if holds_when_ready(formula, dict(zip(names, place)), ties):
            found.append(way)
    return found
