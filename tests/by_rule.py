"""Truth, wants and ways word by word as the document tells them, slowly: what answers are held against."""

import itertools


def holds_by_rule(web, formula, laid):
    """Point 10."""
    word, *rest = formula
    if word == "tied":
        return tuple(sorted((laid[rest[0]], laid[rest[1]]))) in web.ties
    if word == "same":
        return laid[rest[0]] == laid[rest[1]]
    if word == "marked":
        return False
    if word == "not":
        return not holds_by_rule(web, rest[0], laid)
    if word == "and":
        return holds_by_rule(web, rest[0], laid) and holds_by_rule(web, rest[1], laid)
    if word == "or":
        return holds_by_rule(web, rest[0], laid) or holds_by_rule(web, rest[1], laid)
    found = [holds_by_rule(web, rest[1], {**laid, rest[0]: place}) for place in range(web.count)]
    return any(found) if word == "some" else all(found)


def both_ways(ties):
    return {*ties, *[(v, u) for u, v in ties]}


def meeting_places(web, places, signs):
    """Point 12: all places that meet a want."""
    ties = both_ways(web.ties)
    return [place for place in range(web.count) if meets(place, places, signs, ties)]


def meets(place, places, signs, ties):
    return place not in places and all(((place, other) in ties) == (sign == "t")
                                       for other, sign in zip(places, signs))


def unmet_wants(web, k):
    """Points 12 and 13: all wants of at most k places that aren't met, in order."""
    wants = [(len(places), places, "".join(signs)) for many in range(k + 1)
             for places in itertools.combinations(range(web.count), many)
             for signs in itertools.product("to", repeat=many)]
    ties = both_ways(web.ties)
    return [(places, signs) for many, places, signs in sorted(wants)
            if not any(meets(place, places, signs, ties) for place in range(web.count))]


def is_way(text, many):
    """Point 15, each two names and each third one."""
    pairs = list(itertools.combinations(range(many), 2))
    if len(text) != len(pairs) or not set(text) <= set("sto"):
        return False
    sign = dict(zip(pairs, text))
    sign.update({(b, a): sign[a, b] for a, b in pairs})
    return all(sign[a, c] == sign[b, c] for a, b in pairs if sign[a, b] == "s"
               for c in range(many) if c not in (a, b))


def ways_by_rule(many):
    length = many * (many - 1) // 2
    return sorted(text for text in map("".join, itertools.product("sto", repeat=length)) if is_way(text, many))


def way_by_rule(web, places):
    def sign(u, v):
        return "s" if u == v else "t" if tuple(sorted((u, v))) in web.ties else "o"

    return "".join(sign(u, v) for u, v in itertools.combinations(places, 2))


def holds_when_ready(formula, laid, ties):
    """Point 16: whether it holds where one more place is tied as one likes.

    laid tells what lies on the names; ties is a set of frozen pairs of these. Behind some and all
    each of the others' places is taken, and a new one in each way it can be tied to them.
    """
    word, *rest = formula
    if word == "tied":
        return frozenset((laid[rest[0]], laid[rest[1]])) in ties
    if word == "same":
        return laid[rest[0]] == laid[rest[1]]
    if word == "marked":
        return False
    if word == "not":
        return not holds_when_ready(rest[0], laid, ties)
    if word in ("and", "or"):
        found = [holds_when_ready(inner, laid, ties) for inner in rest]
        return all(found) if word == "and" else any(found)
    others = sorted({laid[name] for name in laid if name != rest[0]})
    found = [holds_when_ready(rest[1], {**laid, rest[0]: place}, ties) for place in others]
    new = max(others, default=0) + 1
    kept = {pair for pair in ties if pair <= set(others)}
    for chosen in itertools.product((False, True), repeat=len(others)):
        more = {frozenset((new, other)) for other, tied in zip(others, chosen) if tied}
        found.append(holds_when_ready(rest[1], {**laid, rest[0]: new}, kept | more))
    return any(found) if word == "some" else all(found)


def plain_ways_by_rule(formula, names):
    """Point 16: the ways of the free names, in order, by which it holds where a web is ready enough."""
    found = []
    for way in ways_by_rule(len(names)):
        sign = dict(zip(itertools.combinations(range(len(names)), 2), way))
        # Names that stand alike have the first one's number as their place.
        place = [min([a for a in range(at) if sign[a, at] == "s"], default=at) for at in range(len(names))]
        ties = {frozenset((place[a], place[b])) for a, b in sign if sign[a, b] == "t"}
        if holds_when_ready(formula, dict(zip(names, place)), ties):
            found.append(way)
    return found


def agrees_by_rule(one, other, position):
    """Point 27."""
    laid = [entry for entry in position if entry]
    first, second = both_ways(one.ties), both_ways(other.ties)
    return all((a == c) == (b == d) and ((a, c) in first) == ((b, d) in second)
               for (a, b), (c, d) in itertools.combinations(laid, 2))


def positions_by_rule(one, other, many):
    entries = [(), *itertools.product(range(one.count), range(other.count))]
    return sorted(itertools.product(entries, repeat=many))


def replies_by_rule(one, other, position):
    """Point 28: for each choice of the doubter all positions that the keeper can make."""
    for name in range(len(position)):
        pairs = [[(a, b) for b in range(other.count)] for a in range(one.count)]
        pairs += [[(a, b) for a in range(one.count)] for b in range(other.count)]
        for entries in pairs:
            yield [position[:name] + (entry,) + position[name + 1:] for entry in entries]


def rounds_by_rule(one, other, many):
    """Point 28: of each position in how many rounds it is lost, or None."""
    positions = positions_by_rule(one, other, many)
    rounds = {position: None if agrees_by_rule(one, other, position) else 0 for position in positions}
    added = True
    k = 0
    while added:
        k += 1
        added = [position for position in positions if rounds[position] is None and
                 any(all(rounds[reply] is not None for reply in replies)
                     for replies in replies_by_rule(one, other, position))]
        rounds.update({position: k for position in added})
    return rounds


def chain_by_rule(web, chain, at, laid):
    """Point 30: whether the step at this number holds."""
    word, *rest = chain[at]
    if word in ("tied", "same"):
        return holds_by_rule(web, chain[at], laid)
    if word == "not":
        return not chain_by_rule(web, chain, rest[0], laid)
    if word in ("and", "or"):
        found = [chain_by_rule(web, chain, number, laid) for number in rest[0]]
        return all(found) if word == "and" else any(found)
    return any(chain_by_rule(web, chain, rest[1], {**laid, rest[0]: place}) for place in range(web.count))


def chain_free_by_rule(chain):
    """Point 30: the free names of each step, as sets."""
    free = []
    for word, *rest in chain:
        if word in ("tied", "same"):
            free.append(set(rest))
        elif word == "not":
            free.append(free[rest[0]])
        elif word == "some":
            free.append(free[rest[1]] - {rest[0]})
        else:
            free.append(set().union(*[free[number] for number in rest[0]]))
    return free


def chain_depths_by_rule(chain):
    """Point 30: the depth of each step."""
    depths = []
    for word, *rest in chain:
        if word in ("tied", "same"):
            depths.append(0)
        elif word == "not":
            depths.append(depths[rest[0]])
        elif word == "some":
            depths.append(depths[rest[1]] + 1)
        else:
            depths.append(max([depths[number] for number in rest[0]], default=0))
    return depths
