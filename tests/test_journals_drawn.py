import unittest

from tests.drawing import Drawer, drawn, slow
from tests.matches import all_of
from tests.raising import fault_of, why_not
from tests.second_readers import journal_told
from tests.texts import place_of, turned_text
from tests.turning import near
from towerduel.playing import Match, read_journal

DUELS = slow() + drawn(
    ((2, 2, 700), (3, 1, 400), (3, 2, 400), (2, 3, 400), (1, 3, 200), (3, 3, 150), (2, 1, 100), (1, 2, 50)), seed=33
)
MENU = (
    "\n", " \n", "at 0 :\n", "at 0 : 0\n", "at 1 : 0 1\n", "at 2 : 2\n", "at 0 : 3\n", "at 3 :\n", "at 0 : \n",
    "at 0 :  0\n",
    "move 0\n", "move 0\n", "move 1\n", "move 2\n", "move 3\n", "move 9\n", "move  0\n", "move 0 \n", "move 00\n",
    "move\n",
    "move 0", "at 0 : 0", "move", "letters 1\n",
)


def drawn_match(drawer, duel, many):
    """A match with up to so many drawn moves."""
    match = Match(duel, drawer.number(len(duel.sides)), drawer.numbers(drawer.number(6), duel.letters))
    for _ in range(drawer.number(many + 1)):
        if match.turn() is None:
            break
        state, stack = match.position()
        match.move(drawer.number(len(duel.row(state, stack[0]))))
    return match


class TestDrawn(unittest.TestCase):
    def test_read_back(self):
        drawer = Drawer(34)
        lengths = []
        for duel in DUELS:
            match = drawn_match(drawer, duel, 20)
            again = read_journal(duel, match.journal())
            self.assertEqual(all_of(again), all_of(match))
            # Both go on alike, with moves made and taken back, and at last back to the beginning.
            for _ in range(10):
                number = drawer.number(4)
                for one in (match, again):
                    why_not(one.move, number) if number < 3 else why_not(one.take_back)
                self.assertEqual(all_of(again), all_of(match))
            lengths.append(len(match.moves()))
            start, moves, position = journal_told(duel, again.journal())
            self.assertEqual((moves, position), (again.moves(), again.position()))
            for _ in range(lengths[-1]):
                again.take_back()
            self.assertEqual((again.position(), again.moves(), again.turn()), (start, (), Match(duel, *start).turn()))
        self.assertGreater(len([length for length in lengths if length > 9]), 300)

    def as_the_second_reader(self, duel, text):
        """Checks that both readers tell the same of a text, and returns the line at fault, or None."""
        told = journal_told(duel, text)
        with self.subTest(text=text):
            if isinstance(told, int):
                self.assertEqual(fault_of(read_journal, duel, text), told)
                return told
            match = read_journal(duel, text)
            self.assertEqual(match.journal(), text)
            self.assertEqual((match.moves(), match.position()), told[1:])
            return None

    def test_turned_texts(self):
        drawer = Drawer(35)
        found = {"right": 0, "first": 0, "middle": 0, "last": 0, "behind": 0}
        for duel in DUELS:
            journal = drawn_match(drawer, duel, 12).journal()
            for _ in range(8):
                text = turned_text(drawer, journal, MENU)
                if drawer.number(3) == 0:
                    text = turned_text(drawer, text, MENU)
                found[place_of(self.as_the_second_reader(duel, text), text)] += 1
        self.assertGreater(min(found.values()), 500)

    def test_lines_of_a_menu(self):
        drawer = Drawer(36)
        found = {}
        for duel in DUELS:
            for _ in range(4):
                lines = [drawer.one_of(MENU) for _ in range(drawer.number(6))]
                text = drawer.one_of(("", "at 0 : 0 0 0\n", "at 0 : 0\n")) + "".join(lines)
                line = self.as_the_second_reader(duel, text)
                found[line] = found.get(line, 0) + 1
        self.assertGreater(min(found[line] for line in (None, 1, 2, 3)), 300)

    def test_another_duel(self):
        # A journal of one duel, read for one that is near it, and for one that is not.
        drawer = Drawer(37)
        lines = []
        for duel, other in zip(DUELS, DUELS[::-1]):
            for read_for in (other, near(duel, drawer), near(near(duel, drawer), drawer)):
                for _ in range(2):
                    lines.append(self.as_the_second_reader(read_for, drawn_match(drawer, duel, 12).journal()))
        for line in (None, 1, 2, 3, 4, 5):
            self.assertGreater(lines.count(line), 30)


if __name__ == "__main__":
    unittest.main()
