import unittest

from tests.matches import DUEL, MatchCase, all_of
from towerduel.duels import Duel
from towerduel.playing import Match


class TestMoves(MatchCase):
    def test_beginning(self):
        self.stands_at(Match(DUEL, 0, (0, 1, 2)), (0, (0, 1, 2)), 0, None, ())
        self.stands_at(Match(DUEL, 1, (1,)), (1, (1,)), 1, None, ())

    def test_pop(self):
        match = Match(DUEL, 0, (0, 1, 2))
        self.assertIsNone(match.move(0))
        self.stands_at(match, (0, (1, 2)), 0, None, (0,))

    def test_change(self):
        match = Match(DUEL, 0, (0, 1, 2))
        match.move(1)
        self.stands_at(match, (1, (1, 1, 2)), 1, None, (1,))

    def test_push(self):
        match = Match(DUEL, 0, (0, 0))
        match.move(2)
        self.stands_at(match, (0, (1, 2, 0)), 0, None, (2,))

    def test_row_of_the_state_and_the_letter(self):
        match = Match(DUEL, 1, (0, 0))
        match.move(1)
        match.move(0)
        self.stands_at(match, (0, (1, 2)), 0, None, (1, 0))
        match.move(0)
        self.stands_at(match, (1, (2,)), None, 0, (1, 0, 0))

    def test_last_letter_goes(self):
        match = Match(DUEL, 0, (0,))
        match.move(0)
        self.stands_at(match, (0, ()), None, 0, (0,))
        match = Match(DUEL, 0, (1,))
        match.move(0)
        self.stands_at(match, (1, ()), None, 1, (0,))

    def test_kinds_of_what_is_told(self):
        match = Match(DUEL, 0, (0, 1))
        for number in (2, 0, None):
            state, stack = match.position()
            self.assertIs(type(match.position()), tuple)
            self.assertIs(type(stack), tuple)
            self.assertIs(type(match.moves()), tuple)
            told = [state, *stack, *match.moves(), match.turn(), match.won()]
            for thing in told:
                self.assertIn(type(thing), (int, type(None)))
            if number is not None:
                match.move(number)
        self.assertEqual((match.turn(), match.won()), (None, 0))

    def test_long_play(self):
        # The stack grows by each move; a match may be as long and as tall as it likes.
        duel = Duel((0,), (0,), (0,), 2, {(0, 0): ((0, (0, 1)), (0, ())), (0, 1): ((0, ()),)})
        match = Match(duel, 0, (0,))
        many = 50000
        for _ in range(many):
            match.move(0)
        self.assertEqual(match.position(), (0, (0,) + (1,) * many))
        match.move(1)
        for _ in range(many):
            match.move(0)
        self.stands_at(match, (0, ()), None, 0, (0,) * many + (1,) + (0,) * many)
        for _ in range(2 * many + 1):
            match.take_back()
        self.stands_at(match, (0, (0,)), 0, None, ())


class TestOver(MatchCase):
    def test_empty_stack_at_the_beginning(self):
        for state in (0, 1):
            match = Match(DUEL, state, ())
            self.stands_at(match, (state, ()), None, state, ())
            for number in (-1, 0, 1, 60):
                self.refused_and_nothing_changed("over", match, match.move, number)
            self.refused_and_nothing_changed("move", match, match.take_back)

    def test_empty_row_at_the_beginning(self):
        for state in (0, 1):
            match = Match(DUEL, state, (2, 0))
            self.stands_at(match, (state, (2, 0)), None, 1 - state, ())
            for number in (-1, 0, 1, 60):
                self.refused_and_nothing_changed("over", match, match.move, number)
            self.refused_and_nothing_changed("move", match, match.take_back)

    def test_end_is_of_the_state_and_not_of_its_side(self):
        for side in (0, 1):
            for end in (0, 1):
                match = Match(Duel((side,), (0,), (end,), 1, {}), 0, ())
                self.assertEqual((match.turn(), match.won()), (None, end))
                match = Match(Duel((side,), (0,), (end,), 1, {}), 0, (0,))
                self.assertEqual((match.turn(), match.won()), (None, 1 - side))

    def test_over_behind_moves(self):
        match = Match(DUEL, 1, (1, 1))
        match.move(1)
        self.stands_at(match, (1, (2, 1)), None, 0, (1,))
        self.refused_and_nothing_changed("over", match, match.move, 0)
        match.take_back()
        match.move(0)
        match.move(0)
        self.stands_at(match, (1, ()), None, 1, (0, 0))
        for number in (-1, 0, 60):
            self.refused_and_nothing_changed("over", match, match.move, number)


class TestErrors(MatchCase):
    def test_no_such_move(self):
        match = Match(DUEL, 0, (0, 1))
        for number in (-1, -2, -3, -4, 3, 4, 60, 10**20, -10**20):
            self.refused_and_nothing_changed("move", match, match.move, number)
        match.move(0)
        for number in (-1, 1, 2, 3, 60):
            self.refused_and_nothing_changed("move", match, match.move, number)

    def test_nothing_to_take_back(self):
        match = Match(DUEL, 0, (0, 1))
        self.refused_and_nothing_changed("move", match, match.take_back)
        match.move(2)
        match.take_back()
        self.refused_and_nothing_changed("move", match, match.take_back)
        match.move(0)
        self.stands_at(match, (0, (1,)), 0, None, (0,))


class TestTakeBack(MatchCase):
    def test_each_kind_of_move(self):
        for number in (0, 1, 2):
            match = Match(DUEL, 0, (0, 2, 1))
            before = all_of(match)
            match.move(number)
            self.assertIsNone(match.take_back())
            self.assertEqual(all_of(match), before)

    def test_to_the_beginning(self):
        match = Match(DUEL, 1, (0, 0, 1))
        told = [all_of(match)]
        for number in (0, 0):
            match.move(number)
            told.append(all_of(match))
        self.assertEqual(match.won(), 0)
        for before in told[-2::-1]:
            match.take_back()
            self.assertEqual(all_of(match), before)
        self.refused_and_nothing_changed("move", match, match.take_back)

    def test_another_way_behind(self):
        match = Match(DUEL, 0, (0, 1))
        match.move(2)
        match.move(0)
        match.take_back()
        match.take_back()
        match.move(1)
        self.stands_at(match, (1, (1, 1)), 1, None, (1,))
        match.move(0)
        self.stands_at(match, (0, (1,)), 0, None, (1, 0))
        match.take_back()
        match.move(1)
        self.stands_at(match, (1, (2, 1)), None, 0, (1, 1))

    def test_two_matches_of_one_duel(self):
        one, other = Match(DUEL, 0, (0,)), Match(DUEL, 0, (0,))
        one.move(2)
        self.stands_at(other, (0, (0,)), 0, None, ())
        other.move(0)
        self.stands_at(one, (0, (1, 2)), 0, None, (2,))
        one.take_back()
        self.stands_at(other, (0, ()), None, 0, (0,))


if __name__ == "__main__":
    unittest.main()
