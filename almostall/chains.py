"""Chains: sentences told step by step, each step speaking of steps ahead of it by their numbers."""

from almostall.cells import scope_with
from almostall.errors import BadChain
from almostall.formulas import JOINING_WORDS, NAMES, PAIR_WORDS, in_order
from almostall.plays import Play, entries_agree
from almostall.truth import board_of, refuse_laid
from almostall.webs import is_place, pairs_below


def is_ahead(number, at):
    # The numbers of the steps ahead are counted as places are.
    return is_place(number, at)


def is_step(step, at):
    """Whether this can stand as the step with this number."""
    if not isinstance(step, tuple) or len(step) == 0:
        return False
    word, *rest = step
    if word in PAIR_WORDS:
        return len(rest) == 2 and rest[0] in NAMES and rest[1] in NAMES
    if word == "not":
        return len(rest) == 1 and is_ahead(rest[0], at)
    if word in JOINING_WORDS:
        return len(rest) == 1 and isinstance(rest[0], tuple) and all([is_ahead(number, at) for number in rest[0]])
    return word == "some" and len(rest) == 2 and rest[0] in NAMES and is_ahead(rest[1], at)


def refuse_chain(chain):
    if len(chain) == 0:
        raise BadChain(0)
    for at, step in enumerate(chain):
        if not is_step(step, at):
            raise BadChain(at)


def steps_within(step):
    """The numbers of the steps that a step speaks of."""
    if step[0] in PAIR_WORDS:
        return ()
    return step[1] if step[0] in JOINING_WORDS else step[-1:]


def names_free(step, free):
    """The free names of a step, those of the steps ahead being told."""
    if step[0] in PAIR_WORDS:
        return in_order(step[1:])
    found = [name for number in steps_within(step) for name in free[number]]
    return in_order([name for name in found if step[0] != "some" or name != step[1]])


def free_of_chain(chain):
    free = []
    for step in chain:
        free.append(names_free(step, free))
    return free[-1]


def inner_scope(step, scope):
    return scope_with(scope, step[1]) if step[0] == "some" else scope


def scopes_needed(chain):
    """For each step the names in scope, for each time that the last step comes to need it otherwise."""
    needed = [{} for step in chain]
    needed[-1][()] = True
    for at in range(len(chain) - 1, -1, -1):
        for scope in list(needed[at]):
            inner = inner_scope(chain[at], scope)
            for number in steps_within(chain[at]):
                needed[number][inner] = True
    return [list(scopes) for scopes in needed]


def cells_of_step(step, scope, known, board):
    word = step[0]
    if word in PAIR_WORDS:
        return board.simple(step, scope)
    inner = [known[(number, inner_scope(step, scope))] for number in steps_within(step)]
    if word == "not":
        return board.every(scope) ^ inner[0]
    if word == "some":
        return board.some(inner[0], step[1], scope)
    cells = board.every(scope) if word == "and" else 0
    for each in inner:
        cells = cells & each if word == "and" else cells | each
    return cells


def chain_holds(web, chain, laid):
    refuse_chain(chain)
    refuse_laid(web.count, free_of_chain(chain), laid)
    board = board_of(web, laid)
    needed = scopes_needed(chain)
    known = {}
    for at, step in enumerate(chain):
        for scope in needed[at]:
            known[(at, scope)] = cells_of_step(step, scope, known, board)
    return known[(len(chain) - 1, ())] == 1


class ChainBook:
    """A chain that grows: a step that stands there already is not put there again."""

    def __init__(self):
        self.chain = []
        self.numbers = {}

    def number_of(self, step):
        if step not in self.numbers:
            self.numbers[step] = len(self.chain)
            self.chain.append(step)
        return self.numbers[step]


def plans_from(play, position):
    """What the doubter does at a lost position and at each that can come of it, None where it's won."""
    plans = {}
    waiting = [position]
    while waiting:
        lost = waiting.pop()
        if lost not in plans:
            plans[lost] = play.winning(lost) if play.rounds(lost) > 0 else None
            waiting.extend(plans[lost][2] if plans[lost] is not None else [])
    return plans


def difference(one, other, position):
    """What two names of a position that doesn't agree are in the one web alone, and if in the first."""
    for low, high in pairs_below(len(position)):
        if not entries_agree(one, other, position[low], position[high]):
            (a, b), (c, d) = position[low], position[high]
            if (a == c) != (b == d):
                return (("same", NAMES[low], NAMES[high]), a == c)
            return (("tied", NAMES[low], NAMES[high]), one.rows[a][c])
    return None


def difference_step(book, one, other, position):
    step, in_first = difference(one, other, position)
    number = book.number_of(step)
    return number if in_first else book.number_of(("not", number))


def plan_step(book, plan, parting):
    """The step that holds of a lost position's places in the first web alone, by those of its replies."""
    at, by_first, replies = plan
    numbers = tuple(sorted({parting[reply] for reply in replies}))
    if by_first:
        # The doubter's place has what no place of the other web has.
        return book.number_of(("some", NAMES[at], book.number_of(("and", numbers))))
    # The doubter's place in the second web lacks what each place of the first web has some of.
    lacking = book.number_of(("not", book.number_of(("or", numbers))))
    return book.number_of(("not", book.number_of(("some", NAMES[at], lacking))))


def parting_chain(one, other, many):
    play = Play(one, other, many)
    empty = ((),) * many
    if play.rounds(empty) is None:
        return None
    plans = plans_from(play, empty)
    book = ChainBook()
    parting = {}
    # Fewer rounds first: so the replies have their steps, and the empty position comes last.
    for position in sorted(plans, key=lambda lost: play.rounds(lost)):
        if plans[position] is None:
            parting[position] = difference_step(book, one, other, position)
        else:
            parting[position] = plan_step(book, plans[position], parting)
    return book.chain
