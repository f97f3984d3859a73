"""What must not change, or change in a told way, when a duel is changed."""

import unittest
from itertools import permutations

from tests.drawing import Drawer, drawn, slow
from tests.stacks import by_machine, states_of, with_rows, won_states
from towerduel.duels import Duel
from towerduel.families import families
from towerduel.machines import machine, winner

DUELS = slow() + drawn(
    ((2, 2, 700), (1, 2, 150), (2, 1, 300), (3, 1, 500), (3, 2, 250), (2, 3, 150), (1, 3, 150), (3, 3, 30)), seed=21
)
HEIGHT = 4


def changed(duel, rows=None, **told):
    """The duel with what is told in place of its own."""
    heads = [told.get("sides", duel.sides), told.get("ranks", duel.ranks), told.get("ends", duel.ends)]
    return Duel(*heads, duel.letters, with_rows(duel, lambda spot, row: row) if rows is None else rows)


def renamed(family, states=(0, 1, 2), ranks=(0, 1, 2)):
    """The family with other numbers for its states and ranks."""
    claims = [tuple(sorted((states[state], ranks[rank]) for state, rank in claim)) for claim in family]
    return tuple(sorted(claims))


def moved(head, states):
    """What is told of each state, told of the states as they are numbered now."""
    told = [None] * len(head)
    for state, what in enumerate(head):
        told[states[state]] = what
    return tuple(told)


def renumbered(duel, states, letters):
    """The duel with other numbers for its states and letters."""
    rows = {
        (states[state], letters[letter]): tuple((states[new], tuple(letters[h] for h in word)) for new, word in row)
        for (state, letter), row in with_rows(duel, lambda spot, row: row).items()
    }
    heads = [moved(head, states) for head in (duel.sides, duel.ranks, duel.ends)]
    return Duel(*heads, duel.letters, rows)


class TestNumbering(unittest.TestCase):
    def test_states_and_letters(self):
        drawer = Drawer(22)
        for duel in DUELS:
            of_states = list(permutations(states_of(duel)))
            of_letters = list(permutations(range(duel.letters)))
            states = of_states[drawer.number(len(of_states))]
            letters = of_letters[drawer.number(len(of_letters))]
            other = renumbered(duel, states, letters)
            for side in (0, 1):
                told, anew = families(duel, side), families(other, side)
                for (state, letter), family in told.items():
                    self.assertEqual(anew[states[state], letters[letter]], renamed(family, states))
            wins, anew = by_machine(duel, HEIGHT), by_machine(other, HEIGHT)
            for stack in wins:
                won = tuple(sorted(states[state] for state in wins[stack]))
                self.assertEqual(anew[tuple(letters[letter] for letter in stack)], won)

    def test_order_of_moves(self):
        for duel in DUELS:
            for turn in (lambda spot, row: row[::-1], lambda spot, row: row[1:] + row[:1]):
                other = changed(duel, with_rows(duel, turn))
                for side in (0, 1):
                    self.assertEqual(families(other, side), families(duel, side))
                self.assertEqual(machine(other), machine(duel))


class TestSides(unittest.TestCase):
    def test_exchanged_with_each_rank_one_greater(self):
        asked = 0
        for duel in DUELS:
            duel = changed(duel, ranks=tuple(rank % 2 for rank in duel.ranks))
            sides, ends = [tuple(1 - side for side in head) for head in (duel.sides, duel.ends)]
            other = changed(duel, sides=sides, ends=ends, ranks=tuple(rank + 1 for rank in duel.ranks))
            for side in (0, 1):
                told = {spot: renamed(family, ranks=(1, 2)) for spot, family in families(duel, side).items()}
                self.assertEqual(families(other, 1 - side), told)
            wins, others = by_machine(duel, HEIGHT), by_machine(other, HEIGHT)
            for stack in wins:
                self.assertEqual(others[stack], won_states(duel, 1, wins[stack]))
            asked += 1
            self.assertEqual(winner(other, 0, (0,)), 1 - winner(duel, 0, (0,)))
        self.assertGreater(asked, 2000)


class TestLetters(unittest.TestCase):
    def test_letter_that_no_other_one_has(self):
        drawer = Drawer(23)
        asked = 0
        for duel in DUELS:
            if duel.letters == 3:
                continue
            rows = with_rows(duel, lambda spot, row: row)
            for state in states_of(duel):
                rows[state, duel.letters] = drawer.row(len(duel.sides), duel.letters + 1)
            other = Duel(duel.sides, duel.ranks, duel.ends, duel.letters + 1, rows)
            for side in (0, 1):
                told = families(other, side)
                self.assertEqual({spot: told[spot] for spot in told if spot[1] < duel.letters}, families(duel, side))
            wins, others = by_machine(duel, HEIGHT), by_machine(other, HEIGHT)
            for stack in wins:
                self.assertEqual(others[stack], wins[stack])
            asked += 1
        self.assertGreater(asked, 1500)


class TestRanks(unittest.TestCase):
    def test_0_and_2_without_1(self):
        asked = 0
        for duel in DUELS:
            duel = changed(duel, ranks=tuple(rank if rank != 1 else 2 for rank in duel.ranks))
            told = [
                by_machine(changed(duel, ranks=ranks), HEIGHT)
                for ranks in (duel.ranks, (0,) * len(duel.ranks), (2,) * len(duel.ranks))
            ]
            self.assertEqual(told, [told[0]] * 3)
            asked += 0 in duel.ranks and 2 in duel.ranks
        self.assertGreater(asked, 500)

    def test_families_lowered_to_0(self):
        # With rank 0 in place of each 2 each claim is held whose pairs are those of a held one, with rank 0.
        for duel in DUELS:
            duel = changed(duel, ranks=tuple(rank if rank != 1 else 2 for rank in duel.ranks))
            other = changed(duel, ranks=(0,) * len(duel.ranks))
            for side in (0, 1):
                anew = families(other, side)
                for spot, family in families(duel, side).items():
                    claims = {frozenset((state, 0) for state, _ in claim) for claim in family}
                    least = {claim for claim in claims if not any(less < claim for less in claims)}
                    self.assertEqual({frozenset(claim) for claim in anew[spot]}, least)


class TestFavours(unittest.TestCase):
    def never_loses_what_it_won(self, duel, other, side):
        """Checks that this side wins in the other duel wherever it wins in this one, and tells if it wins more."""
        wins, others = by_machine(duel, HEIGHT), by_machine(other, HEIGHT)
        for stack in wins:
            won, won_now = won_states(duel, side, wins[stack]), won_states(duel, side, others[stack])
            self.assertLessEqual(set(won), set(won_now))
        return wins != others

    def test_one_move_more(self):
        drawer = Drawer(24)
        more = asked = 0
        for duel in DUELS:
            for _ in range(2):
                state, letter = drawer.number(len(duel.sides)), drawer.number(duel.letters)
                row, move = duel.row(state, letter), drawer.move(len(duel.sides), duel.letters)
                if len(row) == 3 or move in row:
                    continue
                rows = with_rows(duel, lambda spot, row: row)
                rows[state, letter] = (*row, move)
                other = changed(duel, rows)
                side = duel.sides[state]
                more += self.never_loses_what_it_won(duel, other, side)
                asked += 1
                held = families(other, side)
                for spot, family in families(duel, side).items():
                    for claim in family:
                        self.assertTrue(any(set(less) <= set(claim) for less in held[spot]))
        self.assertGreater(asked, 2000)
        self.assertGreater(more, 300)

    def test_end_that_becomes_its_own(self):
        more = 0
        for duel in DUELS:
            for state in states_of(duel):
                side = 1 - duel.ends[state]
                ends = duel.ends[:state] + (side,) + duel.ends[state + 1:]
                more += self.never_loses_what_it_won(duel, changed(duel, ends=ends), side)
        self.assertGreater(more, 2000)


if __name__ == "__main__":
    unittest.main()
