"""Formulas: tuples that speak of places by names.

Nothing here calls itself: what is told elsewhere may be handed in again, of whatever size.
"""

NAMES = ("x", "y", "z", "w")
PAIR_WORDS = ("tied", "same")
SIMPLE_WORDS = ("tied", "same", "marked")
JOINING_WORDS = ("and", "or")
BINDING_WORDS = ("some", "all")


def inner_of(formula):
    """The formulas that stand right within this one."""
    word = formula[0]
    if word in SIMPLE_WORDS:
        return ()
    if word in BINDING_WORDS:
        return formula[2:]
    return formula[1:]


def own_names(formula):
    """The names that stand in this formula outside the formulas within it."""
    word = formula[0]
    if word in SIMPLE_WORDS:
        return formula[1:]
    if word in BINDING_WORDS:
        return formula[1:2]
    return ()


def all_parts(formula):
    parts = []
    waiting = [formula]
    while waiting:
        part = waiting.pop()
        parts.append(part)
        waiting.extend(inner_of(part))
    return parts


def in_order(found):
    return tuple([name for name in NAMES if name in found])


def free_names(formula):
    found = []
    waiting = [(formula, ())]
    while waiting:
        part, bound = waiting.pop()
        if part[0] in BINDING_WORDS:
            bound = (*bound, part[1])
        found.extend([name for name in own_names(part) if name not in bound])
        waiting.extend([(inner, bound) for inner in inner_of(part)])
    return in_order(found)


def names_of(formula):
    return in_order([name for part in all_parts(formula) for name in own_names(part)])


def depth_of(formula):
    deepest = 0
    waiting = [(formula, 0)]
    while waiting:
        part, depth = waiting.pop()
        if part[0] in BINDING_WORDS:
            depth += 1
        deepest = max(deepest, depth)
        waiting.extend([(inner, depth) for inner in inner_of(part)])
    return deepest


def parts_of(formula):
    return len(all_parts(formula))
