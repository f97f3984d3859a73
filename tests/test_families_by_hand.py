import unittest

from towerduel.duels import Duel
from towerduel.families import families, holds

NONE = ()
NO_RETURN = ((),)


def one_state(side, rank, rows):
    """A duel of one state, with the rows for the letters from 0 on."""
    return Duel((side,), (rank,), (0,), len(rows), {(0, letter): row for letter, row in enumerate(rows)})


class TestByHand(unittest.TestCase):
    def check(self, duel, of_0, of_1, spot=(0, 0)):
        """Both families at a spot."""
        self.assertEqual(families(duel, 0)[spot], of_0)
        self.assertEqual(families(duel, 1)[spot], of_1)
        for side, family in ((0, of_0), (1, of_1)):
            for claim in family:
                self.assertIs(holds(duel, side, *spot, claim), True)
                for pair in claim:
                    self.assertIs(holds(duel, side, *spot, tuple(p for p in claim if p != pair)), False)
            self.assertIs(holds(duel, side, *spot, ()), family == NO_RETURN)
            everything = tuple((state, rank) for state in range(len(duel.ranks)) for rank in sorted(set(duel.ranks)))
            self.assertIs(holds(duel, side, *spot, everything), family != NONE)

    def test_keys(self):
        duel = Duel((0, 1), (0, 1), (0, 1), 3, {})
        for side in (0, 1):
            self.assertEqual(sorted(families(duel, side)), [(0, 0), (0, 1), (0, 2), (1, 0), (1, 1), (1, 2)])

    def test_empty_row(self):
        duel = Duel((0, 1), (0, 1), (1, 0), 1, {})
        self.check(duel, NONE, NO_RETURN, (0, 0))
        self.check(duel, NO_RETURN, NONE, (1, 0))

    def test_one_pop(self):
        for side in (0, 1):
            for rank in (0, 1, 2):
                family = (((0, rank),),)
                self.check(one_state(side, rank, [((0, ()),)]), family, family)

    def test_pop_counts_the_state_behind_it_alone(self):
        for side in (0, 1):
            duel = Duel((side, 0), (0, 2), (0, 0), 1, {(0, 0): ((1, ()),)})
            self.check(duel, (((1, 2),),), (((1, 2),),))

    def test_change_to_itself(self):
        for side in (0, 1):
            for rank, of_0, of_1 in ((0, NO_RETURN, NONE), (1, NONE, NO_RETURN), (2, NO_RETURN, NONE)):
                self.check(one_state(side, rank, [((0, (0,)),)]), of_0, of_1)

    def test_push_to_itself(self):
        for side in (0, 1):
            for rank, of_0, of_1 in ((0, NO_RETURN, NONE), (1, NONE, NO_RETURN), (2, NO_RETURN, NONE)):
                self.check(one_state(side, rank, [((0, (0, 0)),)]), of_0, of_1)

    def test_circle_of_two_states(self):
        # Of the ranks on the circle the least one decides, wherever it stands.
        for ranks, of_0, of_1 in (
            ((0, 1), NO_RETURN, NONE),
            ((1, 0), NO_RETURN, NONE),
            ((1, 2), NONE, NO_RETURN),
            ((2, 1), NONE, NO_RETURN),
            ((2, 0), NO_RETURN, NONE),
            ((2, 2), NO_RETURN, NONE),
        ):
            for word in ((0,), (0, 0)):
                duel = Duel((0, 1), ranks, (0, 0), 1, {(0, 0): ((1, word),), (1, 0): ((0, word),)})
                self.check(duel, of_0, of_1, (0, 0))
                self.check(duel, of_0, of_1, (1, 0))

    def test_change_lowers_the_return(self):
        for rank in (0, 1, 2):
            rows = {(0, 0): ((1, (1,)),), (1, 1): ((2, ()),)}
            duel = Duel((0, 1, 0), (1, rank, 2), (0, 0, 0), 2, rows)
            self.check(duel, (((2, rank),),), (((2, rank),),))

    def test_push_whose_returns_meet_another_letter(self):
        rows = {
            (0, 0): ((0, (1, 2)),),
            (0, 1): ((1, ()), (2, ())),
            (1, 2): ((1, ()),),
            (2, 2): ((0, ()),),
        }
        # Side 0 chooses whether the letter 2 is met in state 1 or 2.
        duel = Duel((0, 0, 0), (2, 0, 1), (0, 0, 0), 3, rows)
        self.check(duel, (((1, 0),), ((2, 1),)), (((1, 0), (2, 1)),), (0, 1))
        self.check(duel, (((0, 1),), ((1, 0),)), (((0, 1), (1, 0)),))
        other = Duel((1, 0, 0), (2, 0, 1), (0, 0, 0), 3, rows)
        self.check(other, (((0, 1), (1, 0)),), (((0, 1),), ((1, 0),)))

    def test_return_that_meets_an_empty_row(self):
        rows = {(0, 0): ((0, (1, 2)),), (0, 1): ((1, ()), (0, ())), (0, 2): ((0, ()),)}
        # In state 1 the letter 2 leaves its side without a move.
        duel = Duel((0, 1), (1, 1), (0, 0), 3, rows)
        self.check(duel, NO_RETURN, NONE)
        other = Duel((0, 0), (1, 1), (0, 0), 3, rows)
        self.check(other, (((0, 1),),), (((0, 1),),))

    def test_rank_of_the_push_counts(self):
        rows = {(0, 0): ((1, (1, 2)),), (1, 1): ((2, ()),), (2, 2): ((2, ()),)}
        for rank in (0, 1, 2):
            duel = Duel((0, 0, 0), (1, rank, 2), (0, 0, 0), 3, rows)
            self.check(duel, (((2, rank),),), (((2, rank),),))
            self.check(duel, (((2, 2),),), (((2, 2),),), (1, 1))

    def test_circle_through_returns(self):
        # The letter 1 pushed above is popped, and the one beneath becomes 0 again: the rank passed above counts.
        rows = {(0, 0): ((1, (1, 1)),), (1, 1): ((2, ()),), (2, 1): ((0, (0,)),)}
        for ranks, of_0, of_1 in (
            ((2, 1, 2), NONE, NO_RETURN),
            ((2, 2, 2), NO_RETURN, NONE),
            ((1, 0, 2), NO_RETURN, NONE),
            ((2, 2, 1), NONE, NO_RETURN),
            ((1, 2, 0), NO_RETURN, NONE),
        ):
            self.check(Duel((0, 1, 0), ranks, (0, 0, 0), 2, rows), of_0, of_1)

    def test_choice_between_pop_and_circle(self):
        for word in ((0,), (0, 0)):
            row = ((0, ()), (0, word))
            # The side that moves takes the circle that it wins, and leaves the one that it loses.
            for side, rank in ((0, 0), (0, 2), (1, 1)):
                told = [NO_RETURN, NO_RETURN]
                told[1 - side] = NONE
                self.check(one_state(side, rank, [row]), *told)
            for side, rank in ((0, 1), (1, 0), (1, 2)):
                family = (((0, rank),),)
                self.check(one_state(side, rank, [row]), family, family)

    def test_leaving_a_circle_by_another_pop(self):
        rows = {(0, 0): ((1, ()), (1, (0,))), (1, 0): ((0, ()), (0, (0,)))}
        # Both sides may leave the circle; rank 0 is on it, so that side 1 leaves it.
        duel = Duel((0, 1), (0, 1), (0, 0), 1, rows)
        self.check(duel, (((0, 0),), ((1, 1),)), (((0, 0), (1, 1)),), (0, 0))
        self.check(duel, (((0, 0),),), (((0, 0),),), (1, 0))


class TestHolds(unittest.TestCase):
    def test_greater_claims(self):
        duel = Duel((0, 1), (2, 0), (0, 0), 1, {(0, 0): ((0, ()), (1, ()))})
        self.assertEqual(families(duel, 0)[0, 0], (((0, 2),), ((1, 0),)))
        self.assertEqual(families(duel, 1)[0, 0], (((0, 2), (1, 0)),))
        self.assertIs(holds(duel, 0, 0, 0, ((0, 0), (0, 2))), True)
        self.assertIs(holds(duel, 0, 0, 0, ((0, 0), (1, 0), (1, 2))), True)
        # The return to state 1 has its rank, so (1, 2) is of no use.
        self.assertIs(holds(duel, 0, 0, 0, ((0, 0), (1, 2))), False)
        self.assertIs(holds(duel, 1, 0, 0, ((0, 2), (1, 2))), False)
        self.assertIs(holds(duel, 1, 0, 0, ((0, 0), (0, 2), (1, 0), (1, 2))), True)

    def test_ends_make_no_difference(self):
        rows = {(0, 0): ((1, ()), (1, (0,))), (1, 0): ((0, ()), (0, (0, 0)))}
        told = [families(Duel((0, 1), (0, 1), ends, 1, rows), 0) for ends in ((0, 0), (0, 1), (1, 0), (1, 1))]
        self.assertEqual(told, [told[0]] * 4)


if __name__ == "__main__":
    unittest.main()
