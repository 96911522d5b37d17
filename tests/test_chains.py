import copy
import itertools
import random
import unittest

from almostall.chains import chain_holds, parting_chain
from almostall.errors import BadChain, NoCount, NoName, NoPlace
from almostall.plays import kept_positions, rounds_of
from almostall.webs import Web
from by_rule import chain_by_rule, chain_depths_by_rule, chain_free_by_rule
from samples import FORTY_FIGURES, NAMES, NO_COUNTS, Refusing, all_webs, made_web, soon

POINT = Web(1, [])
PATH = Web(4, [(0, 1), (1, 2)])
# Each place is tied to some place.
TIED_ALL = [("tied", "x", "y"), ("some", "y", 0), ("not", 1), ("some", "x", 2), ("not", 3)]


def made_chain(dice, many, depth, wide=4, names=NAMES):
    """A chain of so many steps, none of them deeper than told, as the dice fall."""
    chain = [("tied", names[0], names[-1])]
    while len(chain) < many:
        numbers = [dice.randrange(len(chain)) for time in range(dice.randint(0, wide))]
        step = dice.choice([
            (dice.choice(("tied", "same")), dice.choice(names), dice.choice(names)),
            ("not", dice.randrange(len(chain))),
            (dice.choice(("and", "or")), tuple(numbers)),
            ("some", dice.choice(names), dice.randrange(len(chain))),
        ])
        if chain_depths_by_rule(chain + [step])[-1] <= depth:
            chain.append(step)
    return chain


def reached(chain):
    """The steps of which the last one speaks, itself, and those of which these do."""
    found = {len(chain) - 1}
    for at in range(len(chain) - 1, -1, -1):
        word, *rest = chain[at]
        if at in found and word not in ("tied", "same"):
            found.update(rest[0] if word in ("and", "or") else rest[-1:])
    return found


class ChainHolds(Refusing):
    def told(self, truth, chain, **laid):
        self.assertIs(chain_holds(PATH, chain, laid), truth, chain)

    def test_tied_and_same(self):
        self.told(True, [("tied", "x", "y")], x=0, y=1)
        self.told(True, [("tied", "x", "y")], x=1, y=0)
        self.told(False, [("tied", "x", "y")], x=0, y=2)
        self.told(False, [("tied", "w", "w")], w=1)
        self.told(True, [("same", "z", "w")], z=3, w=3)
        self.told(False, [("same", "z", "w")], z=3, w=2)
        self.told(True, [("same", "z", "z")], z=3)

    def test_not_and_or(self):
        for one, other in itertools.product((True, False), repeat=2):
            ahead = [("tied", "x", "y"), ("tied", "x", "z")]
            places = dict(x=0, y=1 if one else 2, z=1 if other else 2)
            self.told(not one, ahead + [("not", 0)], **places)
            self.told(not other, ahead + [("not", 1)], **places)
            self.told(one and other, ahead + [("and", (0, 1))], **places)
            self.told(one or other, ahead + [("or", (1, 0))], **places)
            self.told(one, ahead + [("and", (0,))], **places)
            self.told(one, ahead + [("or", (0, 0, 0))], **places)

    def test_and_of_none_holds_and_or_of_none_does_not(self):
        self.told(True, [("and", ())])
        self.told(False, [("or", ())])
        self.told(False, [("and", ()), ("not", 0)])
        self.told(True, [("or", ()), ("not", 0)])
        self.told(True, [("and", ()), ("some", "x", 0)])
        self.told(False, [("or", ()), ("some", "x", 0)])
        self.told(False, [("and", ()), ("or", ()), ("and", (0, 1))])
        self.told(True, [("and", ()), ("or", ()), ("or", (0, 1))])

    def test_some(self):
        self.told(True, [("tied", "x", "y"), ("some", "y", 0)], x=0)
        self.told(False, [("tied", "x", "y"), ("some", "y", 0)], x=3)
        self.told(True, [("tied", "x", "y"), ("some", "x", 0)], y=2)
        self.told(False, TIED_ALL)
        self.assertIs(chain_holds(Web(4, [(0, 1), (2, 3)]), TIED_ALL, {}), True)

    def test_a_place_is_taken_in_the_stead_of_what_lay_there(self):
        chain = [("tied", "x", "y"), ("same", "x", "y"), ("some", "x", 0), ("and", (1, 2))]
        self.told(True, chain, x=1, y=1)
        self.told(False, chain, x=3, y=3)
        self.told(False, chain, x=0, y=1)
        self.told(True, [("tied", "x", "y"), ("some", "x", 0), ("some", "x", 1)], y=1)

    def test_the_last_step_alone_counts(self):
        self.told(True, [("or", ()), ("same", "x", "x")], x=0)
        self.told(False, [("same", "x", "x"), ("or", ())])
        # Steps of which it does not speak need nothing laid, and may lie deep.
        deep = [("tied", "z", "w")] + [("some", NAMES[at % 4], at) for at in range(8)]
        self.told(True, deep + [("same", "x", "x")], x=2)

    def test_one_step_for_unlike_places_of_its_names(self):
        # Step 0 is needed for x and y as laid, for each x, and for each y.
        chain = [("tied", "x", "y"), ("some", "x", 0), ("some", "y", 0), ("not", 0), ("and", (1, 2, 3))]
        for x, y in itertools.product(range(4), repeat=2):
            self.told(chain_by_rule(PATH, chain, 4, {"x": x, "y": y}), chain, x=x, y=y)

    def test_names_taken_in_either_order(self):
        chain = [("tied", "x", "y"), ("same", "x", "z"), ("or", (0, 1)), ("some", "x", 2), ("some", "y", 3),
                 ("some", "y", 2), ("not", 5), ("some", "x", 6), ("and", (4, 7))]
        for web in [web for count in (1, 2, 3) for web in all_webs(count)]:
            for z in range(web.count):
                self.assertIs(chain_holds(web, chain, {"z": z}), chain_by_rule(web, chain, 8, {"z": z}))

    def test_made_chains(self):
        dice = random.Random(111)
        for time in range(400):
            chain = made_chain(dice, dice.randint(1, 14), 3)
            web = made_web(dice, dice.randint(1, 5))
            laid = {name: dice.randrange(web.count) for name in NAMES}
            self.assertIs(chain_holds(web, chain, laid), chain_by_rule(web, chain, len(chain) - 1, laid), chain)

    def test_made_chains_without_free_names(self):
        dice = random.Random(112)
        found = []
        while len(found) < 150:
            chain = made_chain(dice, dice.randint(6, 18), 3, names=NAMES[:3])
            if not chain_free_by_rule(chain)[-1] and chain_depths_by_rule(chain)[-1] > 0:
                web = made_web(dice, dice.randint(1, 5))
                found.append(chain_holds(web, chain, {}))
                self.assertIs(found[-1], chain_by_rule(web, chain, len(chain) - 1, {}), chain)
        self.assertEqual(set(found), {True, False})

    def test_greater_webs(self):
        dice = random.Random(113)
        with soon(self):
            for count, depth in ((64, 2), (30, 3), (9, 3)):
                web = made_web(dice, count)
                for time in range(4):
                    chain = made_chain(dice, 12, 2) + [("or", tuple(range(12)))]
                    laid = {name: dice.randrange(count) for name in NAMES}
                    self.assertIs(chain_holds(web, chain, laid), chain_by_rule(web, chain, 12, laid))
                wide = made_chain(dice, 60, depth) + [("and", tuple(range(0, 60, 2)))]
                chain_holds(web, wide, {name: 0 for name in NAMES})

    def test_each_step_is_reckoned_once_for_the_same_places(self):
        # By way of unlike paths the first step is needed 2 ** 1000 times.
        chain = [("tied", "x", "y")]
        for at in range(1000):
            chain.append(("and" if at % 2 else "or", (len(chain) - 1, len(chain) - 1)))
        chain += [("some", "y", 1000), ("not", 1001), ("some", "x", 1002)]
        with soon(self, 5):
            self.assertIs(chain_holds(PATH, chain, {}), True)
            self.assertIs(chain_holds(Web(64, [(at, at ^ 1) for at in range(64)]), chain, {}), False)

    def test_two_thousand_steps(self):
        dice = random.Random(114)
        chain = [("tied", "x", "y"), ("same", "z", "w"), ("tied", "w", "x"), ("some", "x", 0), ("some", "w", 1)]
        while len(chain) < 2098:
            numbers = tuple(dice.randrange(len(chain)) for time in range(dice.randint(0, 40)))
            chain.append((dice.choice(("and", "or")), numbers) if dice.random() < 0.8 else ("not", len(chain) - 1))
        chain += [("or", tuple(range(2098))), ("some", "y", 2098)]
        with soon(self):
            for count in (5, 9, 30, 64):
                chain_holds(made_web(dice, count), chain, {name: 0 for name in NAMES})

    def test_the_first_step_that_is_none(self):
        good = [("tied", "x", "y"), ("not", 0), ("and", (0, 1)), ("some", "x", 2)]
        for bad in (
            ("all", "x", 0), ("marked", "x"), ("Tied", "x", "y"), ("", 0), ("tied",), (),
            ("tied", "x"), ("tied", "x", "y", "z"), ("tied", "x", "v"), ("tied", "X", "y"), ("same", "xy", "x"),
            ("same", "", "x"), ("same", "x", 0), ("tied", 0, 1),
            ("not",), ("not", 4), ("not", 5), ("not", -1), ("not", FORTY_FIGURES), ("not", -FORTY_FIGURES),
            ("not", True), ("not", "x"), ("not", (0,)), ("not", 0, 1),
            ("and",), ("and", 0), ("and", 0, 1), ("and", (0, 4)), ("or", (4,)), ("or", (0, -1)), ("or", (0, "x")),
            ("or", (0, False)), ("and", (0, FORTY_FIGURES)), ("or", (0,), (1,)),
            ("some", "x"), ("some", "x", 4), ("some", "x", -1), ("some", "v", 0), ("some", 0, "x"), ("some", "x", 0, 1),
            ("some", "x", True), ("some", "x", (0,)), ["tied", "x", "y"], ("and", [0, 1]),
        ):
            self.assertEqual(self.refused(BadChain, chain_holds, PATH, good + [bad], {}).place, 4, bad)
            self.assertEqual(self.refused(BadChain, chain_holds, PATH, good + [bad] + good, {}).place, 4, bad)
            self.assertEqual(self.refused(BadChain, chain_holds, PATH, good + [bad, bad], {}).place, 4, bad)

    def test_a_step_may_speak_of_those_ahead_of_it_alone(self):
        for bad in (("not", 0), ("and", (0,)), ("or", (0,)), ("some", "x", 0), ("not", 1)):
            self.assertEqual(self.refused(BadChain, chain_holds, PATH, [bad], {}).place, 0)
        chain = [("same", "x", "x"), ("not", 1)]
        self.assertEqual(self.refused(BadChain, chain_holds, PATH, chain, {"x": 0}).place, 1)

    def test_a_bad_step_of_which_the_last_does_not_speak(self):
        chain = [("same", "x", "x"), ("not", 7), ("not", 0)]
        self.assertEqual(self.refused(BadChain, chain_holds, PATH, chain, {"x": 0}).place, 1)

    def test_a_chain_without_steps(self):
        self.assertEqual(self.refused(BadChain, chain_holds, PATH, [], {}).place, 0)

    def test_free_names_without_places(self):
        chain = [("tied", "w", "y"), ("same", "x", "z"), ("or", (0, 1))]
        self.assertEqual(self.refused(NoName, chain_holds, PATH, chain, {}).name, "x")
        self.assertEqual(self.refused(NoName, chain_holds, PATH, chain, {"x": 9, "z": 0}).name, "y")
        self.assertEqual(self.refused(NoName, chain_holds, PATH, chain, {"x": 0, "y": 0, "z": 0}).name, "w")
        chain = [("tied", "x", "y"), ("some", "x", 0)]
        self.assertEqual(self.refused(NoName, chain_holds, PATH, chain, {"x": 0}).name, "y")

    def test_free_names_are_those_of_the_last_step(self):
        dice = random.Random(115)
        for time in range(150):
            chain = made_chain(dice, dice.randint(1, 12), 3)
            free = [name for name in NAMES if name in chain_free_by_rule(chain)[-1]]
            chain_holds(PATH, chain, {name: 0 for name in free})
            for left_out in free:
                laid = {name: 0 for name in free if name != left_out}
                self.assertEqual(self.refused(NoName, chain_holds, PATH, chain, laid).name, left_out)

    def test_laid_numbers_that_are_no_places(self):
        chain = [("tied", "y", "x")]
        for number in (4, -1, FORTY_FIGURES, -FORTY_FIGURES):
            self.assertEqual(self.refused(NoPlace, chain_holds, PATH, chain, {"x": number, "y": 5}).place, number)
            self.assertEqual(self.refused(NoPlace, chain_holds, PATH, chain, {"x": 0, "y": number}).place, number)
        self.assertIs(self.refused(NoPlace, chain_holds, PATH, chain, {"x": True, "y": 0}).place, True)

    def test_what_is_laid_for_other_names_does_not_matter(self):
        self.told(True, [("same", "x", "x")], x=0, y=99, v=7)
        self.assertIs(chain_holds(PATH, [("tied", "x", "y"), ("some", "y", 0)], {"x": 0, "y": -5, 3: None}), True)

    def test_refusals_in_their_order(self):
        self.refused(BadChain, chain_holds, PATH, [("tied", "x", "y"), ("not", 1)], {})
        self.refused(NoName, chain_holds, PATH, [("tied", "x", "y")], {"x": 99})
        self.refused(NoPlace, chain_holds, PATH, [("tied", "x", "y")], {"x": 99, "y": 0})

    def test_what_is_handed_in_stays_as_it_was(self):
        web, chain, laid = Web(4, [(0, 1), (1, 2)]), copy.deepcopy(TIED_ALL), {"x": 1, "q": 5}
        self.assertEqual(chain_holds(web, chain, laid), chain_holds(web, chain, laid))
        self.assertEqual((web.count, web.ties), (4, ((0, 1), (1, 2))))
        self.assertEqual(chain, TIED_ALL)
        self.assertEqual(laid, {"x": 1, "q": 5})


class PartingChain(Refusing):
    def told(self, one, other, many):
        """Looks at all that is promised of the chain, and tells it."""
        chain = parting_chain(one, other, many)
        rounds = rounds_of(one, other, many, ((),) * many)
        if rounds is None:
            self.assertIsNone(chain, (one.ties, other.ties, many))
            return None
        self.assertIs(type(chain), list)
        self.assertEqual(chain_free_by_rule(chain)[-1], set())
        self.assertEqual(chain_depths_by_rule(chain)[-1], rounds)
        self.assertIs(chain_holds(one, chain, {}), True)
        self.assertIs(chain_holds(other, chain, {}), False)
        names = {name for step in chain for name in step[1:] if step[0] in ("tied", "same")}
        names |= {step[1] for step in chain if step[0] == "some"}
        self.assertLessEqual(names, set(NAMES[:many]))
        return chain

    def test_all_webs_of_at_most_three_places(self):
        webs = [web for count in (1, 2, 3) for web in all_webs(count)]
        for one, other in itertools.product(webs, repeat=2):
            for many in (1, 2, 3):
                chain = self.told(one, other, many)
                if chain is not None:
                    self.assertTrue(chain_by_rule(one, chain, len(chain) - 1, {}))
                    self.assertFalse(chain_by_rule(other, chain, len(chain) - 1, {}))

    def test_made_webs(self):
        dice = random.Random(121)
        with soon(self):
            for time in range(120):
                one, other = made_web(dice, dice.randint(4, 5)), made_web(dice, dice.randint(4, 5))
                self.told(one, other, 2)
                self.told(one, other, 3)

    def test_four_rounds(self):
        one = Web(5, [(0, 1), (0, 2), (0, 3), (0, 4), (1, 2), (1, 3), (2, 3)])
        other = Web(5, [(0, 1), (0, 2), (0, 3), (0, 4), (1, 2), (1, 3)])
        for pair in ((one, other), (other, one)):
            chain = self.told(*pair, 2)
            self.assertEqual(chain_depths_by_rule(chain)[-1], 4)
            self.assertTrue(chain_by_rule(pair[0], chain, len(chain) - 1, {}))
            self.assertFalse(chain_by_rule(pair[1], chain, len(chain) - 1, {}))
        one = Web(5, [(0, 1), (0, 2), (0, 3), (0, 4), (1, 2), (1, 3), (1, 4), (2, 3), (2, 4)])
        other = Web(4, [(0, 1), (0, 2), (0, 3), (1, 2), (1, 3)])
        for pair in ((one, other), (other, one)):
            self.assertEqual(chain_depths_by_rule(self.told(*pair, 3))[-1], 4)

    def test_none_where_the_empty_position_is_kept(self):
        self.assertIsNone(parting_chain(PATH, PATH, 3))
        self.assertIsNone(parting_chain(Web(4, []), Web(5, []), 3))
        self.assertIsNone(parting_chain(POINT, PATH, 1))
        self.assertIsNone(parting_chain(PATH, PATH.part([3, 1, 0, 2]), 3))

    def test_where_it_is_kept_no_chain_of_these_names_parts_them(self):
        dice = random.Random(122)
        webs = [web for count in (2, 3, 4) for web in all_webs(count)]
        chains = []
        while len(chains) < 60:
            chain = made_chain(dice, dice.randint(6, 20), 3, names=NAMES[:2])
            if not chain_free_by_rule(chain)[-1] and chain_depths_by_rule(chain)[-1] > 0:
                chains.append(chain)
        kept = 0
        for time in range(300):
            one, other = dice.choice(webs), dice.choice(webs)
            if parting_chain(one, other, 2) is None and one.ties != other.ties:
                kept += 1
                for chain in chains:
                    self.assertEqual(chain_holds(one, chain, {}), chain_holds(other, chain, {}))
        self.assertGreater(kept, 10)

    def test_the_last_step_speaks_of_the_others(self):
        # Nothing stands in a told chain to no end.
        dice = random.Random(123)
        for time in range(30):
            chain = parting_chain(made_web(dice, 4), made_web(dice, 5), 3)
            self.assertEqual(reached(chain), set(range(len(chain))))
            self.assertEqual(len(chain), len(set(chain)))

    def test_greater_webs_and_other_numbers_of_names(self):
        self.refused(NoCount, parting_chain, Web(6, []), PATH, 2)
        self.refused(NoCount, parting_chain, PATH, Web(6, []), 2)
        for many in (0, 4, *NO_COUNTS):
            self.refused(NoCount, parting_chain, PATH, PATH, many)
            self.refused(NoCount, parting_chain, PATH, POINT, many)

    def test_a_told_chain_is_the_askers_own(self):
        told = parting_chain(PATH, POINT, 2)
        kept = list(told)
        told.clear()
        self.assertEqual(parting_chain(PATH, POINT, 2), kept)

    def test_webs_handed_in_stay_as_they_were(self):
        one, other = Web(3, [(0, 1)]), Web(3, [(0, 1), (1, 2)])
        parting_chain(one, other, 3)
        self.assertEqual((one.count, one.ties, other.count, other.ties), (3, ((0, 1),), 3, ((0, 1), (1, 2))))

    def test_told_just_where_the_empty_position_is_not_kept(self):
        dice = random.Random(124)
        for time in range(30):
            one, other = made_web(dice, dice.randint(1, 4)), made_web(dice, dice.randint(1, 4))
            for many in (1, 2, 3):
                kept = ((),) * many in kept_positions(one, other, many)
                self.assertEqual(parting_chain(one, other, many) is None, kept)


if __name__ == "__main__":
    unittest.main()
