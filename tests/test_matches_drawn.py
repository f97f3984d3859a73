import unittest

from tests.drawing import Drawer, drawn, slow
from tests.raising import why_not
from towerduel.duels import after
from towerduel.playing import Match

DUELS = slow() + drawn(
    ((2, 2, 700), (3, 1, 400), (3, 2, 400), (2, 3, 400), (1, 3, 200), (3, 3, 150), (2, 1, 100), (1, 2, 50)), seed=31
)
NUMBERS = (-1, 0, 1, 2, 3, 60)


class Followed:
    """A match as a list of all positions that it came to and are not taken back."""

    def __init__(self, duel, state, stack):
        self.duel = duel
        self.positions = [(state, stack)]
        self.numbers = []

    def row(self):
        state, stack = self.positions[-1]
        return self.duel.row(state, stack[0]) if stack else ()

    def turn(self):
        return self.duel.sides[self.positions[-1][0]] if self.row() else None

    def won(self):
        state, stack = self.positions[-1]
        if self.row():
            return None
        return 1 - self.duel.sides[state] if stack else self.duel.ends[state]

    def move(self, number):
        """Makes a move, and tells why it can't be made."""
        if not self.row():
            return "over"
        if not 0 <= number < len(self.row()):
            return "move"
        self.positions.append(after(self.positions[-1][1], self.row()[number]))
        self.numbers.append(number)
        return None

    def take_back(self):
        if not self.numbers:
            return "move"
        self.positions.pop()
        self.numbers.pop()
        return None

    def journal(self):
        state, stack = self.positions[0]
        lines = [" ".join(["at", str(state), ":", *map(str, stack)]), *[f"move {number}" for number in self.numbers]]
        return "\n".join(lines) + "\n"


class TestDrawn(unittest.TestCase):
    def test_enough_are_drawn(self):
        self.assertGreaterEqual(len(DUELS), 2000)

    def alike(self, match, followed):
        self.assertEqual(match.position(), followed.positions[-1])
        self.assertEqual(match.turn(), followed.turn())
        self.assertEqual(match.won(), followed.won())
        self.assertEqual(match.moves(), tuple(followed.numbers))

    def test_moves_drawn(self):
        drawer = Drawer(32)
        seen = {}
        for duel in DUELS:
            state, stack = drawer.number(len(duel.sides)), drawer.numbers(drawer.number(6), duel.letters)
            match, followed = Match(duel, state, stack), Followed(duel, state, stack)
            self.alike(match, followed)
            for _ in range(30):
                if drawer.number(4):
                    number = drawer.one_of(NUMBERS) if drawer.number(3) else drawer.number(3)
                    told = ("move", followed.move(number))
                    self.assertEqual(why_not(match.move, number), told[1])
                else:
                    told = ("back", followed.take_back())
                    self.assertEqual(why_not(match.take_back), told[1])
                self.alike(match, followed)
                told = (*told, followed.won(), followed.turn())
                seen[told] = seen.get(told, 0) + 1
            self.assertEqual(match.journal(), followed.journal())
            while followed.numbers:
                followed.take_back()
                match.take_back()
                self.alike(match, followed)
            self.assertEqual(why_not(match.take_back), "move")
            self.assertEqual(match.position(), (state, stack))
            self.assertEqual(match.journal(), followed.journal())
        # Each deed that is done and that can't be done, with each side to move, and won by each side.
        going_on = {(deed, why, None, turn) for deed in ("move", "back") for why in ("move", None) for turn in (0, 1)}
        over = {(*told, side, None) for told in (("move", None), ("move", "over"), ("back", "move")) for side in (0, 1)}
        self.assertEqual(set(seen), going_on | over)
        self.assertGreater(min(seen.values()), 100)


if __name__ == "__main__":
    unittest.main()
