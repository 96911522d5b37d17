"""Truth, wants and ways word by word as the document tells them, slowly: what answers are held against."""

import itertools

from almostall.ladders import Ladder
from almostall.marked import MarkedWeb


def is_tied(web, u, v):
    """Points 10 and 33: tied or, in a ladder, the first one ahead."""
    return (u, v) in web.ties or (not isinstance(web, Ladder) and (v, u) in web.ties)


def holds_by_rule(web, formula, laid):
    """Points 10, 33 and 38."""
    word, *rest = formula
    if word == "tied":
        return is_tied(web, laid[rest[0]], laid[rest[1]])
    if word == "same":
        return laid[rest[0]] == laid[rest[1]]
    if word == "marked":
        return isinstance(web, MarkedWeb) and laid[rest[0]] in web.marks
    if word == "not":
        return not holds_by_rule(web, rest[0], laid)
    if word == "and":
        return holds_by_rule(web, rest[0], laid) and holds_by_rule(web, rest[1], laid)
    if word == "or":
        return holds_by_rule(web, rest[0], laid) or holds_by_rule(web, rest[1], laid)
    found = [holds_by_rule(web, rest[1], {**laid, rest[0]: place}) for place in range(web.count)]
    return any(found) if word == "some" else all(found)


def both_ways(ties):
    return {*ties, *[(v, u) for u, v in ties]}


def pairs_that_meet(web):
    """All (place, other) where the place meets a want's sign t at the other one."""
    return set(web.ties) if isinstance(web, Ladder) else both_ways(web.ties)


def all_signs(web, many):
    last = "mu" if isinstance(web, MarkedWeb) else [""]
    return ["".join(signs) for signs in itertools.product(*["to"] * many, last)]


def meets(web, pairs, place, places, signs):
    """Points 12, 34 and 39."""
    if isinstance(web, MarkedWeb) and (place in web.marks) != (signs[-1] == "m"):
        return False
    return place not in places and all(((place, other) in pairs) == (sign == "t")
                                       for other, sign in zip(places, signs))


def meeting_places(web, places, signs):
    """All places that meet a want."""
    pairs = pairs_that_meet(web)
    return [place for place in range(web.count) if meets(web, pairs, place, places, signs)]


def unmet_wants(web, k):
    """Point 13: all wants of at most k places that aren't met, in order."""
    wants = [(len(places), places, signs) for many in range(k + 1)
             for places in itertools.combinations(range(web.count), many) for signs in all_signs(web, many)]
    pairs = pairs_that_meet(web)
    return [(places, signs) for many, places, signs in sorted(wants)
            if not any(meets(web, pairs, place, places, signs) for place in range(web.count))]


def sign_table(text, many, one_way):
    """The sign of each two names, either way about."""
    sign = dict(zip(itertools.combinations(range(many), 2), text))
    back = {"s": "s", "t": "o", "o": "t"} if one_way else {"s": "s", "t": "t", "o": "o"}
    return {**sign, **{(b, a): back[sign[a, b]] for a, b in sign}}


def is_way(text, many, one_way=False):
    """Points 15 and 35, each two names and each third one."""
    if len(text) != many * (many - 1) // 2 or not set(text) <= set("sto"):
        return False
    sign = sign_table(text, many, one_way)
    return all(sign[a, c] == sign[b, c] for a, b in sign if sign[a, b] == "s"
               for c in range(many) if c not in (a, b))


def ways_by_rule(many, one_way=False):
    length = many * (many - 1) // 2
    texts = map("".join, itertools.product("sto", repeat=length))
    return sorted(text for text in texts if is_way(text, many, one_way))


def way_by_rule(web, places):
    def sign(u, v):
        return "s" if u == v else "t" if is_tied(web, u, v) else "o"

    return "".join(sign(u, v) for u, v in itertools.combinations(places, 2))


def ties_of_new(new, others, one_way):
    """Each way one more place can be tied to the others, or ahead of them and behind them."""
    for chosen in itertools.product((False, True), repeat=len(others)):
        ends = [((new, other), (other, new)) for other in others]
        if one_way:
            yield {pair[turn] for pair, turn in zip(ends, chosen)}
        else:
            yield {end for pair, tied in zip(ends, chosen) if tied for end in pair}


def holds_when_ready(formula, laid, ties, one_way=False):
    """Points 16 and 36: whether it holds where one more place is tied as one likes.

    laid tells what lies on the names; ties is a set of pairs of these, either way about but in
    ladders. Behind some and all each of the others' places is taken, and a new one in each way.
    """
    word, *rest = formula
    if word == "tied":
        return (laid[rest[0]], laid[rest[1]]) in ties
    if word == "same":
        return laid[rest[0]] == laid[rest[1]]
    if word == "marked":
        return False
    if word == "not":
        return not holds_when_ready(rest[0], laid, ties, one_way)
    if word in ("and", "or"):
        found = [holds_when_ready(inner, laid, ties, one_way) for inner in rest]
        return all(found) if word == "and" else any(found)
    others = sorted({laid[name] for name in laid if name != rest[0]})
    found = [holds_when_ready(rest[1], {**laid, rest[0]: place}, ties, one_way) for place in others]
    new = max(others, default=0) + 1
    kept = {pair for pair in ties if set(pair) <= set(others)}
    for more in ties_of_new(new, others, one_way):
        found.append(holds_when_ready(rest[1], {**laid, rest[0]: new}, kept | more, one_way))
    return any(found) if word == "some" else all(found)


def plain_ways_by_rule(formula, names, one_way=False):
    """Points 16 and 35: the ways of the free names, in order, by which it holds where all is ready enough."""
    found = []
    for way in ways_by_rule(len(names), one_way):
        sign = sign_table(way, len(names), one_way)
        # Names that stand alike have the first one's number as their place.
        place = [min([a for a in range(at) if sign[a, at] == "s"], default=at) for at in range(len(names))]
        ties = {(place[a], place[b]) for a, b in sign if sign[a, b] == "t"}
        if holds_when_ready(formula, dict(zip(names, place)), ties, one_way):
            found.append(way)
    return found


def agrees_by_rule(one, other, position):
    """Point 27."""
    laid = [entry for entry in position if entry]
    first, second = both_ways(one.ties), both_ways(other.ties)
    return all((a == c) == (b == d) and ((a, c) in first) == ((b, d) in second)
               for (a, b), (c, d) in itertools.combinations(laid, 2))


def positions_by_rule(one, other, many):
    entries = [(), *itertools.product(range(one.count), range(other.count))]
    return sorted(itertools.product(entries, repeat=many))


def replies_by_rule(one, other, position):
    """Point 28: for each choice of the doubter all positions that the keeper can make."""
    for name in range(len(position)):
        pairs = [[(a, b) for b in range(other.count)] for a in range(one.count)]
        pairs += [[(a, b) for a in range(one.count)] for b in range(other.count)]
        for entries in pairs:
            yield [position[:name] + (entry,) + position[name + 1:] for entry in entries]


def rounds_by_rule(one, other, many):
    """Point 28: of each position in how many rounds it is lost, or None."""
    positions = positions_by_rule(one, other, many)
    rounds = {position: None if agrees_by_rule(one, other, position) else 0 for position in positions}
    added = True
    k = 0
    while added:
        k += 1
        added = [position for position in positions if rounds[position] is None and
                 any(all(rounds[reply] is not None for reply in replies)
                     for replies in replies_by_rule(one, other, position))]
        rounds.update({position: k for position in added})
    return rounds


def chain_by_rule(web, chain, at, laid):
    """Point 30: whether the step at this number holds."""
    word, *rest = chain[at]
    if word in ("tied", "same"):
        return holds_by_rule(web, chain[at], laid)
    if word == "not":
        return not chain_by_rule(web, chain, rest[0], laid)
    if word in ("and", "or"):
        found = [chain_by_rule(web, chain, number, laid) for number in rest[0]]
        return all(found) if word == "and" else any(found)
    return any(chain_by_rule(web, chain, rest[1], {**laid, rest[0]: place}) for place in range(web.count))


def chain_free_by_rule(chain):
    """Point 30: the free names of each step, as sets."""
    free = []
    for word, *rest in chain:
        if word in ("tied", "same"):
            free.append(set(rest))
        elif word == "not":
            free.append(free[rest[0]])
        elif word == "some":
            free.append(free[rest[1]] - {rest[0]})
        else:
            free.append(set().union(*[free[number] for number in rest[0]]))
    return free


def chain_depths_by_rule(chain):
    """Point 30: the depth of each step."""
    depths = []
    for word, *rest in chain:
        if word in ("tied", "same"):
            depths.append(0)
        elif word == "not":
            depths.append(depths[rest[0]])
        elif word == "some":
            depths.append(depths[rest[1]] + 1)
        else:
            depths.append(max([depths[number] for number in rest[0]], default=0))
    return depths
