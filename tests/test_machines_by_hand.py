import unittest

from towerduel.duels import Duel
from towerduel.errors import ShapeError
from towerduel.machines import count_wins, first_win, good_moves, machine, part, winner


def pops(ends, *maps):
    """A duel in which each letter is just popped, and sends each state to the one that its map tells."""
    rows = {(state, letter): ((sent, ()),) for letter, told in enumerate(maps) for state, sent in enumerate(told)}
    return Duel((0,) * len(ends), (0,) * len(ends), ends, len(maps), rows)


def one_state(side, rank, rows, end=0):
    """A duel of one state, with the rows for the letters from 0 on."""
    return Duel((side,), (rank,), (end,), len(rows), {(0, letter): row for letter, row in enumerate(rows)})


# Letter 0 sends each state to the next one, letter 1 each one to state 0, which alone wins with the empty stack.
ROUND = pops((0, 1, 1), (1, 2, 0), (0, 0, 0))
# From state 0 the letters (0, 1) and (1, 0), told from the top on, lead to a state and a letter without a move.
TWO_WAYS = Duel(
    (0, 1, 1), (0, 0, 0), (1, 1, 1), 2,
    {(0, 0): ((1, ()),), (0, 1): ((2, ()),), (1, 0): ((1, ()),), (2, 1): ((2, ()),)},
)


class TestWinner(unittest.TestCase):
    def test_empty_stack(self):
        duel = Duel((0, 1, 0), (1, 0, 2), (0, 1, 1), 2, {})
        self.assertEqual([winner(duel, state, ()) for state in range(3)], [0, 1, 1])

    def test_row_without_moves(self):
        for end in (0, 1):
            duel = Duel((0, 1), (0, 1), (end, end), 1, {})
            for stack in ((0,), (0, 0), (0, 0, 0)):
                self.assertEqual(winner(duel, 0, stack), 1)
                self.assertEqual(winner(duel, 1, stack), 0)

    def test_kind(self):
        for end in (0, 1):
            self.assertIs(type(winner(pops((end,), (0,)), 0, (0,))), int)

    def test_pop_from_stack_to_stack(self):
        for ends in ((0, 1), (1, 0)):
            duel = pops(ends, (1, 0))
            for height in range(30):
                for state in (0, 1):
                    self.assertEqual(winner(duel, state, (0,) * height), ends[(state + height) % 2])

    def test_circles_of_one_state(self):
        for word in ((0,), (0, 0)):
            for side in (0, 1):
                for rank in (0, 1, 2):
                    for end in (0, 1):
                        duel = one_state(side, rank, [((0, word),)], end)
                        for height in (1, 2, 5):
                            self.assertEqual(winner(duel, 0, (0,) * height), rank % 2)

    def test_circles_of_two_states(self):
        told = (((0, 1), 0), ((1, 0), 0), ((1, 2), 1), ((2, 1), 1), ((2, 0), 0), ((2, 2), 0), ((1, 1), 1))
        for ranks, won in told:
            for word in ((0,), (0, 0)):
                duel = Duel((0, 1), ranks, (0, 1), 1, {(0, 0): ((1, word),), (1, 0): ((0, word),)})
                for state in (0, 1):
                    self.assertEqual(winner(duel, state, (0, 0)), won)

    def test_rank_ahead_of_the_circle_does_not_count(self):
        duel = Duel((0, 1), (1, 2), (0, 0), 2, {(0, 0): ((1, (1,)),), (1, 1): ((1, (1,)),)})
        self.assertEqual(winner(duel, 0, (0,)), 0)
        duel = Duel((0, 1), (0, 1), (0, 0), 2, {(0, 0): ((1, (1,)),), (1, 1): ((1, (1,)),)})
        self.assertEqual(winner(duel, 0, (0,)), 1)

    def test_choice(self):
        # One move ends the play, the other one goes on for ever: whoever moves takes what it wins.
        for rank in (0, 1, 2):
            for end in (0, 1):
                for word in ((0,), (0, 0)):
                    row = ((0, ()), (0, word))
                    for side in (0, 1):
                        won = side if side in (end, rank % 2) else 1 - side
                        self.assertEqual(winner(one_state(side, rank, [row], end), 0, (0,)), won)

    def test_letter_beneath_decides(self):
        # Beneath the letter 0, which is popped into the state that its side chooses, stands a letter that lets
        # state 1 alone go on.
        rows = {(0, 0): ((0, ()), (1, ())), (0, 1): (), (1, 1): ((1, ()),)}
        self.assertEqual(winner(Duel((0, 0), (0, 0), (1, 0), 2, rows), 0, (0, 1)), 0)
        self.assertEqual(winner(Duel((1, 0), (0, 0), (1, 0), 2, rows), 0, (0, 1)), 0)
        self.assertEqual(winner(Duel((0, 0), (0, 0), (1, 1), 2, rows), 0, (0, 1)), 1)
        self.assertEqual(winner(Duel((1, 1), (0, 0), (0, 1), 2, rows), 0, (0, 1)), 1)
        self.assertEqual(winner(Duel((1, 1), (0, 0), (1, 0), 2, rows), 0, (0, 1)), 0)

    def test_tall_stack(self):
        self.assertEqual(winner(ROUND, 0, (0,) * 3000), 0)
        self.assertEqual(winner(ROUND, 1, (0,) * 3000), 1)


class TestMachine(unittest.TestCase):
    def test_one_row(self):
        self.assertEqual(machine(one_state(0, 0, [((0, ()),)])), (((0,), (0,)),))
        self.assertEqual(machine(one_state(1, 1, [((0, ()),)], 1)), (((), (0,)),))
        self.assertEqual(machine(pops((0, 0, 0), (1, 2, 0), (0, 0, 0))), (((0, 1, 2), (0, 0)),))

    def test_empty_rows(self):
        self.assertEqual(machine(Duel((0,), (0,), (0,), 1, {})), (((0,), (1,)), ((), (1,))))
        self.assertEqual(machine(Duel((0, 1), (0, 2), (0, 0), 2, {})), (((0, 1), (1, 1)), ((1,), (1, 1))))
        self.assertEqual(machine(Duel((0, 1), (0, 2), (1, 0), 3, {})), (((1,), (0, 0, 0)),))

    def test_exchange(self):
        self.assertEqual(machine(pops((0, 1), (1, 0))), (((0,), (1,)), ((1,), (0,))))
        self.assertEqual(machine(pops((0, 1), (0, 1), (1, 0))), (((0,), (0, 1)), ((1,), (1, 0))))

    def test_row_by_row(self):
        told = (
            ((0,), (1, 2)),
            ((2,), (3, 4)),
            ((0, 1, 2), (2, 2)),
            ((1,), (0, 4)),
            ((), (4, 4)),
        )
        self.assertEqual(machine(ROUND), told)

    def test_all_sets_of_states(self):
        told = (
            ((0,), (1, 2, 3)),
            ((2,), (4, 5, 5)),
            ((0, 1), (6, 3, 3)),
            ((0, 1, 2), (3, 3, 3)),
            ((1,), (0, 1, 5)),
            ((), (5, 5, 5)),
            ((0, 2), (7, 2, 3)),
            ((1, 2), (2, 1, 5)),
        )
        self.assertEqual(machine(pops((0, 1, 1), (1, 2, 0), (0, 0, 1), (0, 0, 0))), told)

    def test_letters_the_other_way_round(self):
        told = (
            ((0,), (1, 2)),
            ((0, 1, 2), (1, 1)),
            ((2,), (3, 4)),
            ((), (3, 3)),
            ((1,), (3, 0)),
        )
        self.assertEqual(machine(pops((0, 1, 1), (0, 0, 0), (1, 2, 0))), told)


class TestFirstWin(unittest.TestCase):
    def test_by_hand(self):
        self.assertEqual([first_win(ROUND, 0, state) for state in range(3)], [(), (1,), (0,)])
        self.assertEqual([first_win(ROUND, 1, state) for state in range(3)], [(0,), (), ()])

    def test_none(self):
        duel = pops((0, 1, 1), (0, 2, 1))
        self.assertEqual([first_win(duel, 0, state) for state in range(3)], [(), None, None])
        self.assertEqual([first_win(duel, 1, state) for state in range(3)], [None, (), ()])

    def test_equally_long_ones_are_read_from_the_bottom(self):
        for stack in ((0, 1), (1, 0)):
            self.assertEqual(winner(TWO_WAYS, 0, stack), 0)
        for stack in ((), (0,), (1,), (0, 0), (1, 1)):
            self.assertEqual(winner(TWO_WAYS, 0, stack), 1)
        self.assertEqual(first_win(TWO_WAYS, 0, 0), (1, 0))

    def test_told_from_the_top(self):
        # From state 0 the letter 0 has to come on top of the letter 1.
        duel = pops((1, 1, 0), (1, 0, 2), (0, 2, 2))
        self.assertEqual(first_win(duel, 0, 0), (0, 1))
        # The same with three letters, of which 2 does what 0 did.
        duel = pops((1, 1, 0), (0, 1, 2), (0, 2, 2), (1, 0, 2))
        self.assertEqual(first_win(duel, 0, 0), (2, 1))

    def test_shorter_ones_first(self):
        duel = pops((1, 0, 1), (2, 1, 1), (0, 1, 1), (1, 1, 1))
        self.assertEqual(first_win(duel, 0, 0), (2,))


class TestCountWins(unittest.TestCase):
    def test_even_numbers_of_a_letter(self):
        duel = pops((0, 1), (0, 1), (1, 0))
        for state in (0, 1):
            self.assertEqual(count_wins(duel, state, 0), 1 - state)
            for height in (1, 2, 3, 10, 64, 999, 1000):
                self.assertEqual(count_wins(duel, state, height), 2 ** (height - 1))

    def test_all_and_none(self):
        for height in (0, 1, 2, 500, 1000):
            self.assertEqual(count_wins(pops((0,), (0,), (0,), (0,)), 0, height), 3 ** height)
            self.assertEqual(count_wins(pops((1,), (0,), (0,), (0,)), 0, height), 0)

    def test_one_letter(self):
        duel = pops((0, 1), (1, 0))
        for height in range(20):
            self.assertEqual([count_wins(duel, state, height) for state in (0, 1)], [1 - height % 2, height % 2])

    def test_by_hand(self):
        self.assertEqual([count_wins(ROUND, 0, height) for height in range(4)], [1, 1, 2, 5])
        self.assertEqual([count_wins(ROUND, 1, height) for height in range(4)], [0, 1, 3, 4])
        self.assertEqual([count_wins(TWO_WAYS, 0, height) for height in range(3)], [0, 0, 2])


class TestPart(unittest.TestCase):
    def both_ways(self, one, other, told):
        self.assertEqual(part(one, other), told)
        self.assertEqual(part(other, one), told)

    def test_at_the_empty_stack(self):
        self.both_ways(pops((0, 1), (0, 1)), pops((1, 0), (0, 1)), ((), 0))
        self.both_ways(pops((0, 0), (0, 1)), pops((0, 1), (0, 1)), ((), 1))

    def test_at_a_letter(self):
        self.both_ways(pops((0, 1), (0, 1), (0, 1)), pops((0, 1), (0, 1), (1, 0)), ((1,), 0))
        self.both_ways(pops((0, 1), (0, 1), (0, 1)), pops((0, 1), (0, 1), (0, 0)), ((1,), 1))

    def test_at_a_taller_stack(self):
        one = pops((0, 1, 1), (1, 0, 2), (0, 2, 1))
        other = pops((0, 1, 1), (1, 0, 2), (0, 2, 2))
        self.both_ways(one, other, ((1, 0), 2))

    def test_nowhere(self):
        self.both_ways(ROUND, ROUND, None)
        self.both_ways(ROUND, pops((0, 1, 1), (1, 2, 0), (0, 0, 0)), None)
        # Other rows, sides and ranks, and the same winners.
        one = Duel((0, 1), (0, 1), (0, 0), 1, {(0, 0): ((0, (0,)),), (1, 0): ((1, (0,)),)})
        other = Duel((1, 0), (2, 1), (0, 0), 1, {(0, 0): ((0, ()),)})
        self.both_ways(one, other, None)

    def test_other_shapes(self):
        shapes = [(states, letters) for states in (1, 2, 3) for letters in (1, 2, 3)]
        for states, letters in shapes:
            for others, other_letters in shapes:
                one = pops((0,) * states, *[tuple(range(states))] * letters)
                other = pops((0,) * others, *[tuple(range(others))] * other_letters)
                if (states, letters) == (others, other_letters):
                    self.assertIsNone(part(one, other))
                    continue
                with self.assertRaises(ShapeError) as caught:
                    part(one, other)
                self.assertEqual(caught.exception.part, "letters" if states == others else "states")


class TestGoodMoves(unittest.TestCase):
    def test_none_one_and_all(self):
        rows = {(0, 0): ((0, ()), (1, ()), (2, ()))}
        for side in (0, 1):
            for ends, wins_0 in (
                ((0, 0, 0), (0, 1, 2)), ((1, 1, 1), ()), ((1, 0, 1), (1,)), ((0, 1, 0), (0, 2)), ((1, 1, 0), (2,)),
            ):
                duel = Duel((side, 0, 0), (0, 0, 0), ends, 1, rows)
                others = tuple(number for number in range(3) if number not in wins_0)
                self.assertEqual(good_moves(duel, 0, (0,)), others if side else wins_0)

    def test_over(self):
        for side in (0, 1):
            for end in (0, 1):
                duel = Duel((side,), (0,), (end,), 1, {})
                self.assertEqual(good_moves(duel, 0, ()), ())
                self.assertEqual(good_moves(duel, 0, (0,)), ())

    def test_change_and_push(self):
        rows = {(0, 0): ((0, ()), (0, (1,)), (0, (2, 1))), (0, 1): (), (0, 2): ((0, ()),)}
        self.assertEqual(good_moves(Duel((0,), (0,), (0,), 3, rows), 0, (0,)), (0,))
        self.assertEqual(good_moves(Duel((0,), (0,), (0,), 3, rows), 0, (0, 1)), ())
        self.assertEqual(good_moves(Duel((1,), (0,), (1,), 3, rows), 0, (0, 0)), (0,))
        rows[0, 1] = ((0, (1,)),)
        self.assertEqual(good_moves(Duel((0,), (2,), (1,), 3, rows), 0, (0,)), (1, 2))
        self.assertEqual(good_moves(Duel((0,), (1,), (1,), 3, rows), 0, (0,)), ())
        self.assertEqual(good_moves(Duel((1,), (1,), (1,), 3, rows), 0, (0, 0)), (0, 1, 2))

    def test_numbers_of_the_row(self):
        # The state does not matter, the place in the row does.
        for row in (((1, ()), (0, ())), ((0, ()), (1, ()))):
            duel = Duel((0, 0), (0, 0), (1, 0), 1, {(0, 0): row})
            self.assertEqual(good_moves(duel, 0, (0,)), (row.index((1, ())),))


if __name__ == "__main__":
    unittest.main()
