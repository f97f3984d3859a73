import unittest

from tests.matches import DUEL, MatchCase, all_of
from tests.raising import fault_of
from tests.texts import digits_around
from towerduel.duels import Duel
from towerduel.playing import Match, read_journal

DUEL_2 = Duel(
    (0, 1), (0, 2), (0, 1), 3,
    {
        (0, 0): ((0, ()), (1, (1,)), (0, (1, 1))),
        (0, 1): ((1, ()),),
        (1, 1): ((0, ()), (1, (2,))),
    },
)
# A journal for it, of a match that is over behind the last line.
LINES = ("at 0 : 0 0", "move 0", "move 2", "move 0", "move 0")


def text_of(*lines):
    return "".join(f"{line}\n" for line in lines)


def played(duel, state, stack, *numbers):
    match = Match(duel, state, stack)
    for number in numbers:
        match.move(number)
    return match


class TestPrint(unittest.TestCase):
    def test_beginning(self):
        self.assertEqual(Match(DUEL, 0, (0, 1, 2)).journal(), "at 0 : 0 1 2\n")
        self.assertEqual(Match(DUEL, 1, (2,)).journal(), "at 1 : 2\n")

    def test_empty_stack(self):
        self.assertEqual(Match(DUEL, 1, ()).journal(), "at 1 :\n")

    def test_tall_stack(self):
        stack = (2, 1, 0) * 500
        self.assertEqual(Match(DUEL, 0, stack).journal(), "at 0 :" + " 2 1 0" * 500 + "\n")

    def test_moves(self):
        match = played(DUEL, 0, (0, 1), 2, 0)
        self.assertEqual(match.journal(), "at 0 : 0 1\nmove 2\nmove 0\n")
        match.take_back()
        self.assertEqual(match.journal(), "at 0 : 0 1\nmove 2\n")
        match.take_back()
        match.move(1)
        self.assertEqual(match.journal(), "at 0 : 0 1\nmove 1\n")
        match.take_back()
        self.assertEqual(match.journal(), "at 0 : 0 1\n")


class TestRead(MatchCase):
    def read_alike(self, match, duel=DUEL):
        """Reads the journal of a match, checks that the match read tells the same, and takes it back to the end."""
        journal = match.journal()
        again = read_journal(duel, journal)
        self.assertIs(type(again), Match)
        self.assertEqual(all_of(again), all_of(match))
        for _ in match.moves():
            again.take_back()
        self.assertEqual((again.position(), again.moves()), (beginning(journal), ()))
        self.refused("move", again.take_back)
        return read_journal(duel, journal)

    def test_without_moves(self):
        for state in (0, 1):
            for stack in ((), (0,), (2,), (0, 1, 2), (2, 2, 1) * 300):
                self.read_alike(Match(DUEL, state, stack))

    def test_with_moves(self):
        self.read_alike(played(DUEL, 0, (0, 1), 2, 0))
        self.read_alike(played(DUEL, 0, (0, 0), 1, 0))
        self.read_alike(played(DUEL_2, 0, (0, 0), 0, 2, 0, 0), DUEL_2)

    def test_over(self):
        self.assertEqual(self.read_alike(played(DUEL, 0, (0,), 0)).won(), 0)
        self.assertEqual(self.read_alike(played(DUEL, 1, (1,), 1)).won(), 0)

    def test_goes_on(self):
        again = self.read_alike(played(DUEL, 0, (0, 1), 2))
        again.move(0)
        self.stands_at(again, (1, (2, 1)), None, 0, (2, 0))
        self.assertEqual(again.journal(), "at 0 : 0 1\nmove 2\nmove 0\n")
        self.refused("over", again.move, 0)
        again.take_back()
        again.take_back()
        again.move(1)
        self.assertEqual(again.journal(), "at 0 : 0 1\nmove 1\n")

    def test_taken_back_is_not_told(self):
        match = played(DUEL, 0, (0, 1), 2, 0)
        match.take_back()
        match.take_back()
        match.move(0)
        self.assertEqual(self.read_alike(match).moves(), (0,))

    def test_long(self):
        duel = Duel((0,), (0,), (0,), 2, {(0, 0): ((0, (0, 1)), (0, ()))})
        text = "at 0 : 0" + " 1" * 1000 + "\n" + "move 0\n" * 20000
        match = read_journal(duel, text)
        self.assertEqual(match.position(), (0, (0,) + (1,) * 21000))
        self.assertEqual(match.journal(), text)
        self.assertEqual(fault_of(read_journal, duel, text + "move 1\nmove 0\n"), 20003)


def beginning(journal):
    """The position that the first line of a journal tells."""
    state, *letters = [int(sign) for sign in journal.partition("\n")[0] if sign in "0123456789"]
    return state, tuple(letters)


class TestFaults(unittest.TestCase):
    def at_fault(self, line, text, duel=DUEL_2):
        with self.subTest(text=text):
            self.assertEqual(fault_of(read_journal, duel, text), line)

    def test_right(self):
        self.assertIsNone(fault_of(read_journal, DUEL_2, text_of(*LINES)))
        self.assertEqual(read_journal(DUEL_2, text_of(*LINES)).position(), (0, ()))

    def test_no_line(self):
        self.at_fault(1, "")
        self.at_fault(1, "at 0 : 0")
        self.at_fault(1, "move 0")
        self.at_fault(1, " ")
        self.at_fault(1, "\n")
        self.at_fault(1, "\n" + text_of(*LINES))

    def test_first_line_of_another_form(self):
        wrong = (
            "", " ", "at", "at ", "at 0", "at 0 ", "at 0: 0", "at 0 :0", "at 0:0", "at 0  : 0", "at 0 :  0",
            "at  0 : 0",
            "at 0 : 0  0", " at 0 : 0", "at 0 : 0 ", "at 0 : ", "at 0 :  ", "at0 : 0", "at : 0", "at 0 0 : 0",
            "at 0 0 0",
            "at 0 : : 0", "at 0 : 0 :", "at 00 : 0", "at 0 : 00", "at 0 : 0 10", "at 0 : 0,0", "at 0 : 0.", "at 0 : x",
            "At 0 : 0", "AT 0 : 0", "on 0 : 0", "att 0 : 0", "a 0 : 0", "at 0 ; 0", "at 0 :: 0", "at 0 0 0 0",
            "at - : 0",
            "at -0 : 0", "at +0 : 0", "at 0 : -0", "at 0 : +0", "at 0 : -1", "at -1 : 0", "position 0 : 0", "0 : 0",
            ": 0",
            "at 0 : 0~", "at 0 : 0 move 0", "at 0 : 0 at 0 : 0", "#", "move", "move 0", "state 0 0 0", "letters 3",
        )
        for line in wrong:
            for behind in ((), LINES[1:], (LINES[0],)):
                self.at_fault(1, text_of(line, *behind))

    def test_signs_that_texts_do_not_have(self):
        for sign in ("\r", "\t", "\f", "\v", "\x1c", "\u2028", "\u00a0", "\ufeff", "\x00"):
            for line in (LINES[0] + sign, sign + LINES[0], LINES[0].replace(" ", sign)):
                self.at_fault(1, text_of(line))
            for line in (LINES[1] + sign, sign + LINES[1], LINES[1].replace(" ", sign)):
                self.at_fault(2, text_of(LINES[0], line))
        for digit in ("\u0660", "\u00b2", "\uff10"):
            self.at_fault(1, text_of(f"at {digit} : 0"))
            self.at_fault(1, text_of(f"at 0 : {digit}"))
            self.at_fault(2, text_of(LINES[0], f"move {digit}"))
        self.at_fault(1, "at 0 : 0 0\rmove 0\r")

    def test_state_and_letter_that_there_is_not(self):
        for state in range(2, 10):
            self.at_fault(1, text_of(f"at {state} : 0 0", *LINES[1:]))
        for letter in range(3, 10):
            for stack in (f" {letter}", f" 0 {letter}", f" {letter} 0", f" 0 0 1 {letter} 2"):
                self.at_fault(1, text_of("at 0 :" + stack))
        small = Duel((0,), (0,), (0,), 1, {})
        self.at_fault(None, "at 0 : 0\n", small)
        self.at_fault(1, "at 1 : 0\n", small)
        self.at_fault(1, "at 0 : 1\n", small)

    def test_move_line_of_another_form(self):
        wrong = (
            "", " ", "move", "move ", "move  0", " move 0", "move 0 ", "move0", "move 00", "move 0 0", "move 10",
            "move -0",
            "move +0", "move -1", "move x", "move 0.", "Move 0", "MOVE 0", "moves 0", "mov 0", "go 0", "0", "move: 0",
            "move 0~", "move 0 move 0", "take_back", "at", "move :", "move 0 :", "#", "move :0",
        )
        for place in (1, 2, 4):
            for line in wrong:
                self.at_fault(place + 1, text_of(*LINES[:place], line, *LINES[place + 1:]))
                self.at_fault(place + 1, text_of(*LINES[:place], line))

    def test_each_word_of_each_line(self):
        for place in range(4):
            for line in digits_around(place, LINES[0].split(" ")):
                if line != LINES[0] and line != "at 0 : : 0":
                    self.at_fault(1, text_of(line, *LINES[1:]))
        for place in range(2):
            for line in digits_around(place, LINES[1].split(" ")):
                self.at_fault(2, text_of(LINES[0], line, *LINES[2:]))

    def test_other_line_at_its_place(self):
        self.at_fault(1, text_of(*LINES[1:]))
        for place in range(1, 6):
            self.at_fault(place + 1, text_of(*LINES[:place], LINES[0], *LINES[place:]))
            self.at_fault(place + 1, text_of(*LINES[:place], "at 0 :", *LINES[place:]))

    def test_move_that_there_is_not(self):
        for number in range(3, 10):
            self.at_fault(2, text_of(LINES[0], f"move {number}", *LINES[2:]))
            self.at_fault(3, text_of(*LINES[:2], f"move {number}", *LINES[3:]))
        for number in range(1, 10):
            self.at_fault(4, text_of(*LINES[:3], f"move {number}", *LINES[4:]))

    def test_move_when_it_is_over(self):
        self.at_fault(2, text_of("at 0 :", "move 0"))
        self.at_fault(2, text_of("at 0 : 2 0", "move 0"))
        self.at_fault(3, text_of("at 0 : 0", "move 0", "move 0"))
        self.at_fault(4, text_of("at 0 : 1 1", "move 0", "move 1", "move 0"))

    def test_behind_the_last_line_feed(self):
        for rest in (" ", "m", "move 0", "at 0 : 0", "~", "  "):
            for many in range(1, 6):
                self.at_fault(many + 1, text_of(*LINES[:many]) + rest)
        for many in range(1, 6):
            self.at_fault(many, text_of(*LINES[:many])[:-1])

    def test_line_feed_too_many(self):
        for place in range(6):
            self.at_fault(place + 1, text_of(*LINES[:place], "", *LINES[place:]))

    def test_first_of_two_faults(self):
        faults = ("move 9", "move", "", "at 0 :", "move 0 ")
        for first in faults:
            for second in faults:
                for one in range(1, 5):
                    for other in range(one + 1, 5):
                        lines = list(LINES)
                        lines[one], lines[other] = first, second
                        self.at_fault(one + 1, text_of(*lines))
                        self.at_fault(one + 1, text_of(*lines) + "x")
                        self.at_fault(1, text_of("at 2 : 0 0", *lines[1:]))

    def test_line_behind_a_fault_does_not_count(self):
        # The move of the line 2 would be there if the line 1 were right, and so on.
        self.at_fault(1, text_of("at 0 : 0 3", "move 0"))
        self.at_fault(3, text_of("at 0 : 0 0", "move 0", "move 3", "move 0"))


if __name__ == "__main__":
    unittest.main()
