import re
import unittest

from tests.drawing import SIZES, Drawer, drawn, slow
from tests.raising import fault_of
from tests.second_readers import duel_told
from tests.stacks import with_rows
from tests.texts import place_of, turned_text
from tests.turning import near
from towerduel.duels import Duel, alike
from towerduel.notation import print_duel, read_duel

DUELS = slow() + drawn(SIZES, seed=51)
MENU = (
    "\n", " \n", "state 0 0 0\n", "state 1 2 1\n", "state 0 1 1\n", "state 2 0 0\n", "state 0 0\n", "state 0 0 0 \n",
    "letters 1\n", "letters 2\n", "letters 3\n", "letters 0\n", "letters 4\n", "letters\n",
    "on 0 0 go 0\n", "on 0 0 go 0 0 | 0\n", "on 0 1 go 1 1 0 | 0 0\n", "on 1 0 go 0 | 1 | 0 0\n", "on 1 1 go 1 1 1\n",
    "on 2 2 go 2 2 2\n", "on 0 0 go\n", "on 0 0 go 0 |\n", "on 0 0 go 0 | 0\n", "on 0 0 go 0 0 0 0\n", "on 3 0 go 0\n",
    "on 0 0 go 0 | 0 0 | 0 0 0 | 1\n", "on 0 0  go 0\n", "letters 1", "on 0 0 go 0", "state 0 0 0", "at 0 : 0\n",
)
ON_LINES = tuple(line for line in MENU if line.startswith("on"))


def parts_of(duel):
    """What a reader tells of a duel."""
    rows = with_rows(duel, lambda spot, row: row)
    return duel.sides, duel.ranks, duel.ends, duel.letters, {spot: row for spot, row in rows.items() if row}


class TestDrawn(unittest.TestCase):
    def test_enough_are_drawn(self):
        self.assertGreaterEqual(len(DUELS), 3000)

    def test_read_back(self):
        for duel in DUELS:
            text = print_duel(duel)
            again = read_duel(text)
            self.assertTrue(alike(again, duel))
            self.assertEqual(print_duel(again), text)
            self.assertEqual(duel_told(text), parts_of(duel))
            self.assertEqual(parts_of(again), parts_of(duel))
            self.assertIsNotNone(re.fullmatch("([ -~]+\n)+", text))

    def test_same_text_exactly_if_alike(self):
        drawer = Drawer(52)
        same = 0
        small = drawn(((1, 1, 300), (1, 2, 50), (2, 1, 100)), seed=53)
        texts = [print_duel(duel) for duel in small]
        for place, duel in enumerate(small):
            for other, text in zip(small[:place], texts):
                same += alike(duel, other)
                self.assertEqual(texts[place] == text, alike(duel, other))
        self.assertGreater(same, 100)
        same = 0
        for duel in DUELS:
            other = near(duel, drawer)
            same += alike(duel, other)
            self.assertEqual(print_duel(duel) == print_duel(other), alike(duel, other))
            # The same rows in a dict of another order, with and without the empty ones.
            rows = with_rows(duel, lambda spot, row: row)
            for told in (dict(reversed(rows.items())), {spot: row for spot, row in rows.items() if row}):
                again = Duel(duel.sides, duel.ranks, duel.ends, duel.letters, told)
                self.assertEqual(print_duel(again), print_duel(duel))
        self.assertGreater(same, 200)

    def as_the_second_reader(self, text):
        """Checks that both readers tell the same of a text, and returns the line at fault, or None."""
        told = duel_told(text)
        with self.subTest(text=text):
            if isinstance(told, int):
                self.assertEqual(fault_of(read_duel, text), told)
                return told
            duel = read_duel(text)
            self.assertEqual(parts_of(duel), told)
            self.assertEqual(print_duel(duel), text)
            return None

    def test_turned_texts(self):
        drawer = Drawer(54)
        found = {"right": 0, "first": 0, "middle": 0, "last": 0, "behind": 0}
        for duel in DUELS:
            printed = print_duel(duel)
            for _ in range(6):
                text = turned_text(drawer, printed, MENU)
                if drawer.number(3) == 0:
                    text = turned_text(drawer, text, MENU)
                found[place_of(self.as_the_second_reader(text), text)] += 1
        self.assertGreater(min(found.values()), 50)

    def test_lines_of_a_menu(self):
        drawer = Drawer(55)
        found = {}
        for _ in range(12000):
            states = [drawer.one_of(MENU[2:5]) for _ in range(drawer.number(4))]
            letters = [drawer.one_of(MENU[8:11]) for _ in range(drawer.number(6) > 0)]
            rows = [drawer.one_of(ON_LINES) for _ in range(drawer.number(4))]
            if drawer.number(2):
                rows = sorted(set(rows))
            lines = [*states, *letters, *rows]
            for _ in range(drawer.number(3)):
                lines.insert(drawer.number(len(lines) + 1), drawer.one_of(MENU))
            line = self.as_the_second_reader("".join(lines))
            found[line] = found.get(line, 0) + 1
        self.assertGreater(min(found[line] for line in (None, 1, 2, 3, 4, 5, 6)), 200)

    def test_lines_in_any_order(self):
        drawer = Drawer(56)
        right = wrong = 0
        for duel in DUELS:
            lines = print_duel(duel).splitlines(keepends=True)
            one, other = drawer.number(len(lines)), drawer.number(len(lines))
            lines.insert(one, lines.pop(other))
            if self.as_the_second_reader("".join(lines)) is None:
                right += 1
            else:
                wrong += 1
        self.assertGreater(min(right, wrong), 500)


if __name__ == "__main__":
    unittest.main()
