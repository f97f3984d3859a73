import itertools
import unittest

from tests.drawing import Drawer, drawn, slow
from tests.referee import Forcing, NONE_YET, Rules, claims_over, held_by_circles, pairs_of, spots_of, won_below
from towerduel.duels import Duel, alike
from towerduel.families import families, holds

DUELS = slow() + drawn()
# The references below take longer, so fewer duels are drawn for them.
SOME = slow() + drawn(((2, 2, 300), (3, 1, 200), (3, 2, 150), (2, 3, 80), (1, 3, 60), (2, 1, 60), (3, 3, 30)), seed=2)
FEW = drawn(((2, 2, 60), (3, 1, 60), (1, 3, 30), (1, 2, 20), (2, 3, 25)), seed=3)
OF_FEW_CLAIMS = [
    duel for duel in drawn(((2, 2, 250), (3, 1, 300), (3, 2, 200), (2, 3, 80), (1, 3, 40)), seed=5)
    if len(pairs_of(duel)) <= 4
]


def with_told(duels):
    """Each duel, both sides, and the families told."""
    for duel in duels:
        for side in (0, 1):
            yield duel, side, families(duel, side)


class TestDrawn(unittest.TestCase):
    def test_enough_are_drawn(self):
        self.assertGreaterEqual(len(DUELS), 3000)
        shapes = {(duel.sides, duel.ranks, tuple(duel.row(*spot) for spot in spots_of(duel))) for duel in DUELS}
        self.assertGreaterEqual(len(shapes), 3000)
        self.assertGreaterEqual(len(OF_FEW_CLAIMS), 300)

    def test_form(self):
        for duel, _, told in with_told(DUELS):
            self.assertEqual(list(told), spots_of(duel))
            pairs = pairs_of(duel)
            for family in told.values():
                self.assertIs(type(family), tuple)
                self.assertTrue(all(one < other for one, other in zip(family, family[1:])))
                for claim in family:
                    self.assertIs(type(claim), tuple)
                    self.assertTrue(all(pair in pairs for pair in claim))
                    self.assertTrue(all(one < other for one, other in zip(claim, claim[1:])))
                for one, other in itertools.permutations(family, 2):
                    self.assertFalse(set(one) <= set(other))

    def test_rules_of_point_9(self):
        for duel, side, told in with_told(DUELS):
            rules = Rules(duel, side, told)
            for spot in spots_of(duel):
                for claim in rules.all_claims():
                    self.assertIs(rules.held(spot, claim), rules.told_to_hold(spot, claim))

    def test_exactly_one_side_holds(self):
        for duel in DUELS:
            one, other = [Rules(duel, side, families(duel, side)) for side in (0, 1)]
            everything = (1 << len(one.pairs)) - 1
            for spot in spots_of(duel):
                for claim in one.all_claims():
                    self.assertNotEqual(one.told_to_hold(spot, claim), other.told_to_hold(spot, everything - claim))

    def test_what_is_forced_is_held(self):
        found = 0
        for duel, side, told in with_told(DUELS):
            forcing = Forcing(duel, side)
            for state, letter in spots_of(duel):
                for claim in forcing.forced(state, (letter,), NONE_YET, 4):
                    found += 1
                    self.assertTrue(any(claim.issuperset(least) for least in told[state, letter]))
        self.assertGreater(found, 10000)

    def test_holds_agrees(self):
        drawer = Drawer(4)
        for duel, side, told in with_told(DUELS):
            pairs = pairs_of(duel)
            for state, letter in spots_of(duel):
                family = told[state, letter]
                claims = [drawer.some(pairs), drawer.some(pairs)]
                if family:
                    claims += [family[-1], family[0][1:], tuple(sorted({*family[0], *drawer.some(pairs)}))]
                for claim in claims:
                    held = any(set(least) <= set(claim) for least in family)
                    self.assertIs(holds(duel, side, state, letter, claim), held)

    def test_holds_agrees_for_all_claims(self):
        for duel, side, told in with_told(FEW):
            for (state, letter), claim in itertools.product(spots_of(duel), claims_over(pairs_of(duel))):
                held = any(claim.issuperset(least) for least in told[state, letter])
                self.assertIs(holds(duel, side, state, letter, tuple(sorted(claim))), held)

    def test_the_dict_is_the_callers(self):
        for duel, side, told in with_told(DUELS):
            rows = {spot: duel.row(*spot) for spot in spots_of(duel)}
            before = Duel(duel.sides, duel.ranks, duel.ends, duel.letters, rows)
            kept = dict(told)
            told.clear()
            self.assertEqual(families(duel, side), kept)
            for spot in kept:
                self.assertIs(holds(duel, side, *spot, ()), kept[spot] == ((),))
            self.assertTrue(alike(duel, before))


class TestReferences(unittest.TestCase):
    def test_what_is_won_on_low_stacks_is_held(self):
        # What a side does not hold is a part of all that the other side's least claims leave over.
        found = 0
        for duel in SOME:
            told = [families(duel, side) for side in (0, 1)]
            everything = frozenset(pairs_of(duel))
            for side in (0, 1):
                left = {everything.difference(least) for family in told[1 - side].values() for least in family}
                for claim in left | {everything}:
                    for spot in won_below(duel, side, claim, 3):
                        found += 1
                        self.assertTrue(any(claim.issuperset(least) for least in told[side][spot]))
        self.assertGreater(found, 1000)

    def test_without_pushes_low_stacks_tell_all(self):
        for duel in SOME:
            rows = {spot: tuple((state, word[:1]) for state, word in duel.row(*spot)) for spot in spots_of(duel)}
            rows = {spot: tuple(dict.fromkeys(row)) for spot, row in rows.items()}
            flat = Duel(duel.sides, duel.ranks, duel.ends, duel.letters, rows)
            pairs = [(state, rank) for state, rank in pairs_of(flat) if rank <= flat.ranks[state]]
            for side in (0, 1):
                told = families(flat, side)
                for claim in claims_over(pairs):
                    held = [spot for spot in told if any(claim.issuperset(least) for least in told[spot])]
                    self.assertEqual(won_below(flat, side, claim, 1), held)

    def test_points_9_and_10_as_a_game_on_claims(self):
        for duel, side, told in with_told(OF_FEW_CLAIMS):
            held = {
                (spot, claim) for spot in told for claim in claims_over(pairs_of(duel))
                if any(claim.issuperset(least) for least in told[spot])
            }
            self.assertEqual(held, held_by_circles(duel, side))


if __name__ == "__main__":
    unittest.main()
