import unittest

from tests.matches import MatchCase
from towerduel.duels import Duel
from towerduel.judging import judge, shown
from towerduel.playing import Player

# Side 0 moves in state 0 alone. A return to state 0 has rank 0 if state 2 came, and rank 2 otherwise.
ROWS = {
    (0, 0): ((0, ()), (1, (1, 2))),
    (0, 1): ((0, ()), (1, (1,))),
    (0, 2): ((0, ()), (1, ())),
    (1, 0): ((0, (0,)), (2, ())),
    (1, 1): ((0, ()), (2, (1,)), (1, (1, 1))),
    (2, 0): ((2, ()),),
    (2, 1): ((0, ()), (1, (1, 1))),
}
DUEL = Duel((0, 1, 1), (2, 2, 0), (0, 1, 0), 3, ROWS)
ANY = ((0, 0), (0, 2))
PAPER = (
    # State 0 and letter 0: a push if state 1 is good for the rest, otherwise a pop.
    (0, 0, ((0, 2), (1, 0)), (("push", 1, 3, ((0, 0, 7), (0, 2, 6))),)),
    (0, 0, ((0, 2),), (("pop", 0),)),
    (1, 0, ((0, 2), (2, 0)), (("change", 0, 1), ("pop", 1))),
    # The level that the push begins, and each one that side 1 puts upon it.
    (1, 1, ANY, (("pop", 0), ("change", 1, 8), ("push", 2, 3, ((0, 0, 5), (0, 2, 4))))),
    # State 0 and letter 1: a pop if rank 2 came back, a change if rank 0 did.
    (0, 1, ((0, 2),), (("pop", 0),)),
    (0, 1, ANY, (("change", 1, 3),)),
    # State 0 and letter 2: a pop into state 0 if rank 2 came back, into state 1 if rank 0 did.
    (0, 2, ((0, 2),), (("pop", 0),)),
    (0, 2, ((1, 2),), (("pop", 1),)),
    (2, 1, ANY, (("pop", 0), ("push", 1, 3, ((0, 0, 5), (0, 2, 4))))),
    (2, 0, ((2, 0),), (("pop", 0),)),
)


class TestMoves(MatchCase):
    def plays(self, player, *told):
        """Lets the player hear moves, checking where each one leads; its own ones are told as "mine 1" and so on."""
        for number, position in told:
            if isinstance(number, str):
                number = int(number[-1])
                self.assertEqual(player.move(), number)
            else:
                self.refused("move", player.move)
            self.assertIsNone(player.hear(number))
            self.assertEqual(player.position(), position)

    def test_paper(self):
        self.assertIsNone(judge(DUEL, 0, PAPER))
        self.assertEqual([shown(DUEL, 0, PAPER, (0,) * many) for many in range(3)], [(0, 2), (0, 1, 2), (0, 1, 2)])

    def test_position_at_the_beginning(self):
        for state, stack in ((0, ()), (2, ()), (0, (0,)), (1, (0, 0)), (0, (2, 0)), (2, (1, 0, 0))):
            player = Player(DUEL, 0, PAPER, state, stack)
            self.assertEqual(player.position(), (state, stack))

    def test_first_entry_whose_claim_is_shown_beneath(self):
        # With nothing beneath state 1 is not shown, so it has to be the entry 1.
        self.assertEqual(Player(DUEL, 0, PAPER, 0, (0,)).move(), 0)
        self.assertEqual(Player(DUEL, 0, PAPER, 0, (0, 0)).move(), 1)
        # If the entry 1 stands first, it is taken everywhere.
        turned = (
            PAPER[1], (*PAPER[0][:3], PAPER[0][3]), (*PAPER[2][:3], (("change", 0, 0), ("pop", 1))), *PAPER[3:]
        )
        self.assertIsNone(judge(DUEL, 0, turned))
        self.assertEqual(Player(DUEL, 0, turned, 0, (0,)).move(), 0)
        self.assertEqual(Player(DUEL, 0, turned, 0, (0, 0)).move(), 0)

    def test_pop_onto_a_letter_with_returns(self):
        player = Player(DUEL, 0, PAPER, 0, (0, 0))
        self.plays(player, ("mine 1", (1, (1, 2, 0))), (0, (0, (2, 0))), ("mine 0", (0, (0,))))

    def test_change_that_makes_another_return(self):
        player = Player(DUEL, 0, PAPER, 0, (0, 0))
        self.plays(
            player, ("mine 1", (1, (1, 2, 0))), (1, (2, (1, 2, 0))), (0, (0, (2, 0))), ("mine 1", (1, (0,))),
            (0, (0, (0,))), ("mine 0", (0, ())),
        )

    def test_pop_onto_letters_without_notes(self):
        player = Player(DUEL, 0, PAPER, 2, (0, 0, 0))
        self.plays(player, (0, (2, (0, 0))), (0, (2, (0,))), (0, (2, ())))
        player = Player(DUEL, 0, PAPER, 0, (2, 0, 0))
        self.plays(
            player, ("mine 0", (0, (0, 0))), ("mine 1", (1, (1, 2, 0))), (0, (0, (2, 0))), ("mine 0", (0, (0,))),
            ("mine 0", (0, ())),
        )

    def test_note_of_an_uncovered_letter_is_of_its_own_rest(self):
        # At each height the first entry whose claim is shown for what is still beneath.
        player = Player(DUEL, 0, PAPER, 1, (0, 0, 0))
        self.plays(player, (1, (2, (0, 0))), (0, (2, (0,))))
        player = Player(DUEL, 0, PAPER, 1, (0, 0))
        self.plays(player, (0, (0, (0, 0))), ("mine 0", (0, (0,))), ("mine 0", (0, ())))

    def test_pushes_without_rank_0(self):
        player = Player(DUEL, 0, PAPER, 0, (0, 0))
        self.plays(
            player, ("mine 1", (1, (1, 2, 0))), (2, (1, (1, 1, 2, 0))), (2, (1, (1, 1, 1, 2, 0))),
            (0, (0, (1, 1, 2, 0))),
            ("mine 0", (0, (1, 2, 0))), ("mine 0", (0, (2, 0))), ("mine 0", (0, (0,))),
        )

    def test_rank_further_up_counts_for_each_letter_beneath(self):
        player = Player(DUEL, 0, PAPER, 0, (0, 0))
        self.plays(
            player, ("mine 1", (1, (1, 2, 0))), (2, (1, (1, 1, 2, 0))), (2, (1, (1, 1, 1, 2, 0))),
            (1, (2, (1, 1, 1, 2, 0))), (0, (0, (1, 1, 2, 0))), ("mine 1", (1, (1, 1, 2, 0))), (0, (0, (1, 2, 0))),
            ("mine 1", (1, (1, 2, 0))), (0, (0, (2, 0))), ("mine 1", (1, (0,))),
        )

    def test_rank_ahead_of_a_push_does_not_count_for_it(self):
        # State 2 came ahead of the push: it counts for the letter 2, but not for the letter that the push put there.
        player = Player(DUEL, 0, PAPER, 0, (0, 0))
        self.plays(
            player, ("mine 1", (1, (1, 2, 0))), (1, (2, (1, 2, 0))), (1, (1, (1, 1, 2, 0))), (0, (0, (1, 2, 0))),
            ("mine 0", (0, (2, 0))), ("mine 1", (1, (0,))),
        )

    def test_rank_behind_an_inner_level_counts_further_down(self):
        # The inner letter gets its note by rank 2, and state 2 comes later, at that letter.
        player = Player(DUEL, 0, PAPER, 0, (0, 0))
        self.plays(
            player, ("mine 1", (1, (1, 2, 0))), (1, (2, (1, 2, 0))), (1, (1, (1, 1, 2, 0))), (2, (1, (1, 1, 1, 2, 0))),
            (1, (2, (1, 1, 1, 2, 0))), (0, (0, (1, 1, 2, 0))), ("mine 1", (1, (1, 1, 2, 0))),
            (2, (1, (1, 1, 1, 2, 0))), (0, (0, (1, 1, 2, 0))), ("mine 0", (0, (1, 2, 0))), ("mine 1", (1, (1, 2, 0))),
        )

    def test_state_of_the_push_counts(self):
        # The push leads to state 1, of rank 0, and the level ends in state 0, of rank 2: the return is (0, 0).
        rows = {(0, 0): ((1, (1, 1)),), (0, 1): ((0, ()),), (1, 1): ((0, ()),)}
        told = (
            (0, 0, ((0, 0),), (("push", 0, 1, ((0, 0, 2),)),)),
            (1, 1, ((0, 2),), (("pop", 0),)),
            (0, 1, ((0, 2),), (("pop", 0),)),
        )
        for side in (0, 1):
            duel = Duel((side, 1 - side), (2, 0), (side, side), 2, rows)
            self.assertIsNone(judge(duel, side, told))
            player = Player(duel, side, told, 0, (0, 1))
            self.plays(
                player, ("mine 0", (1, (1, 1, 1))), (0, (0, (1, 1))), ("mine 0", (0, (1,))), ("mine 0", (0, ())),
            )

    def test_state_behind_the_pop_counts(self):
        # The push leads to state 1, of rank 2; if the level ends in state 0, of rank 0, the return is (0, 0).
        rows = {(0, 0): ((1, (1, 1)),), (0, 1): ((0, ()), (1, ())), (1, 1): ((0, ()), (1, ()))}
        told = (
            (0, 0, ((0, 0), (1, 0), (1, 2)), (("push", 0, 1, ((0, 0, 2), (1, 2, 1))),)),
            (1, 1, ((0, 0), (1, 2)), (("pop", 0), ("pop", 1))),
            (0, 1, ((1, 2),), (("pop", 1),)),
        )
        for side in (0, 1):
            duel = Duel((side, 1 - side), (0, 2), (side, side), 2, rows)
            self.assertIsNone(judge(duel, side, told))
            player = Player(duel, side, told, 0, (0,))
            self.plays(player, ("mine 0", (1, (1, 1))), (0, (0, (1,))), ("mine 1", (1, ())))
            player = Player(duel, side, told, 0, (0,))
            self.plays(player, ("mine 0", (1, (1, 1))), (1, (1, (1,))), (0, (0, ())))

    def test_many_pushes(self):
        # Rank 0 comes at the very top, and counts for each letter down to the bottom.
        many = 5000
        player = Player(DUEL, 0, PAPER, 0, (0, 0))
        player.hear(1)
        for _ in range(many):
            player.hear(2)
        self.assertEqual(player.position(), (1, (1,) * (many + 1) + (2, 0)))
        player.hear(1)
        player.hear(0)
        for _ in range(many):
            self.assertEqual(player.move(), 1)
            player.hear(1)
            player.hear(0)
        self.plays(player, ("mine 1", (1, (0,))))

    def test_tall_stack(self):
        player = Player(DUEL, 0, PAPER, 0, (0,) * 20001)
        for height in range(20000, 1, -1):
            self.assertEqual(player.move(), 1)
            player.hear(1)
            player.hear(0)
            player.hear(0)
        self.assertEqual(player.position(), (0, (0, 0)))


class TestErrors(MatchCase):
    def test_lost(self):
        # The end of state 1 is side 1's, and with these stacks the paper shows nothing for states 1 and 2.
        self.refused("lost", Player, DUEL, 0, PAPER, 1, ())
        for state in (1, 2):
            for stack in ((2,), (2, 0), (0, 2)):
                self.refused("lost", Player, DUEL, 0, PAPER, state, stack)
        self.assertEqual(shown(DUEL, 0, PAPER, (0, 2)), (0,))
        self.assertEqual(Player(DUEL, 0, PAPER, 0, (0, 2)).move(), 0)

    def test_empty_paper(self):
        for side in (0, 1):
            for state in (0, 1, 2):
                if DUEL.ends[state] == side:
                    player = Player(DUEL, side, (), state, ())
                    self.refused("over", player.move)
                else:
                    self.refused("lost", Player, DUEL, side, (), state, ())
                for stack in ((0,), (2,), (1, 0, 0)):
                    self.refused("lost", Player, DUEL, side, (), state, stack)

    def test_paper_that_shows_too_little(self):
        # Side 0 wins, but the paper without its first entries doesn't show it.
        told = ((0, 2, ((0, 2),), (("pop", 0),)),)
        self.assertIsNone(judge(DUEL, 0, told))
        self.assertEqual(Player(DUEL, 0, told, 0, (2,)).move(), 0)
        self.refused("lost", Player, DUEL, 0, told, 0, (0,))
        self.refused("lost", Player, DUEL, 0, told, 0, (2, 0))

    def test_over(self):
        for state, stack, side in ((0, (), 0), (2, (), 0), (1, (2,), 0), (1, (2, 1, 0), 0)):
            told = PAPER if not stack else (*PAPER, (1, 2, (), ()))
            self.assertIsNone(judge(DUEL, side, told))
            player = Player(DUEL, side, told, state, stack)
            self.refused("over", player.move)
            for number in (-1, 0, 1, 60):
                self.refused("over", player.hear, number)
            self.assertEqual(player.position(), (state, stack))

    def test_over_behind_moves(self):
        player = Player(DUEL, 0, PAPER, 0, (0,))
        player.hear(0)
        self.refused("over", player.move)
        for number in (-1, 0, 3):
            self.refused("over", player.hear, number)
        self.assertEqual(player.position(), (0, ()))

    def test_not_its_turn(self):
        player = Player(DUEL, 0, PAPER, 1, (0,))
        self.refused("move", player.move)
        self.assertEqual(player.position(), (1, (0,)))
        player.hear(0)
        self.assertEqual(player.move(), 0)

    def test_no_such_move(self):
        # Also at its own turn a move that there is not is told ahead of one that is not its own.
        for state, many in ((0, 2), (1, 2), (2, 1)):
            player = Player(DUEL, 0, PAPER, state, (0, 0))
            for number in (-1, -2, -3, many, many + 1, 3, 60, 10**20):
                self.refused("move", player.hear, number)
                self.assertEqual(player.position(), (state, (0, 0)))

    def test_another_move_than_its_own(self):
        player = Player(DUEL, 0, PAPER, 0, (0, 0))
        self.refused("lost", player.hear, 0)
        self.assertEqual((player.position(), player.move()), ((0, (0, 0)), 1))
        player.hear(1)
        player.hear(1)
        player.hear(0)
        self.refused("lost", player.hear, 0)
        self.assertEqual((player.position(), player.move()), ((0, (2, 0)), 1))
        player.hear(1)
        self.assertEqual(player.position(), (1, (0,)))

    def test_errors_change_nothing(self):
        # The same play as one of above, with all errors at each of its positions.
        player = Player(DUEL, 0, PAPER, 0, (0, 0))
        for number in (1, 2, 2, 1, 0, 1, 0, 1, 0, 1, 0, 0):
            state, stack = player.position()
            for wrong in (-1, 3, 60):
                self.refused("move", player.hear, wrong)
            if DUEL.sides[state] == 0:
                self.assertEqual([player.move(), player.move()], [number, number])
                self.refused("lost", player.hear, 1 - number)
            else:
                self.refused("move", player.move)
            self.assertEqual(player.position(), (state, stack))
            player.hear(number)
        self.assertEqual(player.position(), (0, ()))
        for wrong in (-1, 0, 60):
            self.refused("over", player.hear, wrong)

    def test_two_players_of_one_paper(self):
        one, other = Player(DUEL, 0, PAPER, 0, (0, 0)), Player(DUEL, 0, PAPER, 0, (0, 0))
        one.hear(1)
        self.assertEqual((other.position(), other.move()), ((0, (0, 0)), 1))
        one.hear(0)
        other.hear(1)
        other.hear(1)
        other.hear(0)
        self.assertEqual((one.position(), one.move()), ((0, (2, 0)), 0))
        self.assertEqual((other.position(), other.move()), ((0, (2, 0)), 1))


if __name__ == "__main__":
    unittest.main()
