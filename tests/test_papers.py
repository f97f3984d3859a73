import unittest

from tests.drawing import drawn, slow
from tests.second_judge import fault, first_open, shown_by
from tests.stacks import by_machine, states_of, with_rows, won_states
from towerduel.duels import Duel, alike
from towerduel.judging import judge, judge_book, shown
from towerduel.papers import book, paper

DUELS = slow() + drawn()


class TestByHand(unittest.TestCase):
    def test_pop(self):
        duel = Duel((0,), (2,), (0,), 1, {(0, 0): ((0, ()),)})
        told = ((0, 0, ((0, 2),), (("pop", 0),)),)
        self.assertEqual(book(duel), (told, told))

    def test_change(self):
        duel = Duel((1,), (1,), (0,), 1, {(0, 0): ((0, (0,)),)})
        self.assertEqual(paper(duel, 0), ())
        self.assertEqual(paper(duel, 1), ((0, 0, (), (("change", 0, 0),)),))

    def test_push(self):
        duel = Duel((1,), (2,), (0,), 1, {(0, 0): ((0, (0, 0)),)})
        self.assertEqual(paper(duel, 0), ((0, 0, (), (("push", 0, 0, ()),)),))
        self.assertEqual(paper(duel, 1), ())

    def test_empty_row(self):
        duel = Duel((0, 1), (0, 0), (0, 0), 1, {})
        self.assertEqual(paper(duel, 0), ((1, 0, (), ()),))
        self.assertEqual(paper(duel, 1), ((0, 0, (), ()),))

    def test_choice_of_a_move_that_does(self):
        # Rank 1 goes round by the change, so side 0 has to pop; side 1 may do without a return.
        rows = {(0, 0): ((0, (0,)), (0, ()))}
        duel = Duel((0,), (1,), (0,), 1, rows)
        self.assertEqual(paper(duel, 0), ((0, 0, ((0, 1),), (("pop", 1),)),))
        duel = Duel((1,), (1,), (0,), 1, rows)
        self.assertEqual(shown(duel, 1, paper(duel, 1), (0,)), (0,))

    def test_claim_that_is_no_least_one(self):
        # At the letter 1 side 0 holds the claim of state 1 alone by a change to the letter 0 only, which it holds
        # in turn by a push of the letter 1: so there it has to let be both states of its other move.
        rows = {
            (0, 0): ((0, (1, 2)),),
            (0, 1): ((2, (1,)), (0, (0,))),
            (2, 1): ((0, ()), (1, ())),
            (0, 2): ((1, ()),),
            (1, 2): ((1, ()),),
        }
        duel = Duel((0, 0, 1), (1, 1, 1), (1, 0, 1), 3, rows)
        told = paper(duel, 0)
        self.assertIsNone(judge(duel, 0, told))
        self.assertEqual(shown(duel, 0, told, (0,)), (0, 2))
        self.assertEqual(shown(duel, 0, told, (1,)), (0,))
        self.assertIn((0, 1, ((0, 1), (1, 1))), [entry[:3] for entry in told])
        self.assertIn((0, 1, ((1, 1),)), [entry[:3] for entry in told])


class TestDrawn(unittest.TestCase):
    def test_form(self):
        for duel in DUELS:
            papers = book(duel)
            self.assertIs(type(papers), tuple)
            self.assertEqual(papers, (paper(duel, 0), paper(duel, 1)))
            for told in papers:
                self.assertIs(type(told), tuple)
                hash(told)

    def test_taken(self):
        for duel in DUELS:
            for side in (0, 1):
                told = paper(duel, side)
                self.assertIsNone(judge(duel, side, told))
                self.assertIsNone(fault(duel, side, told))

    def test_shows_all_wins(self):
        for duel in DUELS:
            wins = by_machine(duel, 4)
            for side in (0, 1):
                told = paper(duel, side)
                showing = shown_by(duel, side, told, 4)
                for stack in wins:
                    self.assertEqual(showing[stack], won_states(duel, side, wins[stack]))

    def test_shown(self):
        for duel in DUELS:
            wins = by_machine(duel, 4)
            for side in (0, 1):
                told = paper(duel, side)
                for stack in wins:
                    self.assertEqual(shown(duel, side, told, stack), won_states(duel, side, wins[stack]))

    def test_books(self):
        for duel in DUELS:
            papers = book(duel)
            self.assertIsNone(judge_book(duel, papers))
            self.assertIsNone(first_open(duel, papers, 2))

    def test_nothing_is_changed(self):
        for duel in DUELS[::4]:
            before = Duel(duel.sides, duel.ranks, duel.ends, duel.letters, with_rows(duel, lambda spot, row: row))
            papers = book(duel)
            judge_book(duel, papers)
            self.assertEqual(papers, book(duel))
            self.assertTrue(alike(duel, before))

    def test_every_kind_of_answer(self):
        kinds = {}
        for duel in DUELS:
            for side, told in enumerate(book(duel)):
                for state, _, _, answers in told:
                    for answer in answers:
                        place = side, answer[0], duel.sides[state] == side
                        kinds[place] = kinds.get(place, 0) + 1
        self.assertEqual(len(kinds), 12)
        self.assertGreater(min(kinds.values()), 300)

    def test_shown_with_tall_stacks(self):
        for duel in DUELS[:500]:
            for side, told in enumerate(book(duel)):
                stack = tuple(height % duel.letters for height in range(400))
                wins = shown(duel, side, told, stack)
                anew = shown(duel, side, told, (0, *stack))
                again = [
                    state for state in states_of(duel)
                    if any(q == state and g == 0 and {p for p, _ in claim} <= set(wins) for q, g, claim, _ in told)
                ]
                self.assertEqual(anew, tuple(again))


if __name__ == "__main__":
    unittest.main()
