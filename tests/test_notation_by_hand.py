import unittest

from tests.raising import fault_of
from tests.texts import digits_around
from towerduel.duels import Duel, alike
from towerduel.notation import print_duel, read_duel

# Rows of one to three moves, words of no, one and two letters, and rows without moves.
DUEL = Duel(
    (0, 1, 1), (2, 0, 1), (0, 1, 0), 3,
    {
        (0, 0): ((1, ()), (0, (2,)), (2, (0, 1))),
        (0, 2): ((2, (2, 2)), (0, ())),
        (1, 1): ((1, (1,)),),
        (2, 0): ((0, ()), (1, ()), (2, ())),
        (2, 2): ((0, (0, 0)), (0, (0,)), (0, ())),
    },
)
LINES = (
    "state 0 2 0",
    "state 1 0 1",
    "state 1 1 0",
    "letters 3",
    "on 0 0 go 1 | 0 2 | 2 0 1",
    "on 0 2 go 2 2 2 | 0",
    "on 1 1 go 1 1",
    "on 2 0 go 0 | 1 | 2",
    "on 2 2 go 0 0 0 | 0 0 | 0",
)
HEAD, ROWS = LINES[:4], LINES[4:]


def text_of(*lines):
    return "".join(f"{line}\n" for line in lines)


class TestPrint(unittest.TestCase):
    def test_each_form_of_line(self):
        self.assertEqual(print_duel(DUEL), text_of(*LINES))

    def test_least_duel(self):
        self.assertEqual(print_duel(Duel((1,), (2,), (0,), 1, {})), "state 1 2 0\nletters 1\n")

    def test_empty_rows_are_not_told(self):
        self.assertEqual(
            print_duel(Duel((1, 0), (0, 1), (1, 1), 2, {(0, 0): (), (0, 1): ((1, ()),), (1, 1): ()})),
            "state 1 0 1\nstate 0 1 1\nletters 2\non 0 1 go 1\n",
        )

    def test_rows_in_order(self):
        rows = {(1, 1): ((0, ()),), (0, 1): ((0, ()),), (1, 0): ((0, ()),), (0, 0): ((0, ()),)}
        text = print_duel(Duel((0, 0), (0, 0), (0, 0), 2, rows))
        self.assertEqual(text.splitlines()[3:], [f"on {spot} go 0" for spot in ("0 0", "0 1", "1 0", "1 1")])

    def test_moves_in_the_order_of_the_row(self):
        for row, told in (
            (((1, ()), (0, ())), "1 | 0"), (((0, ()), (1, ())), "0 | 1"),
            (((0, (0, 0)), (0, ()), (0, (0,))), "0 0 0 | 0 | 0 0"),
        ):
            text = print_duel(Duel((0, 0), (0, 0), (0, 0), 1, {(1, 0): row}))
            self.assertEqual(text, f"state 0 0 0\nstate 0 0 0\nletters 1\non 1 0 go {told}\n")


class TestRead(unittest.TestCase):
    def test_each_form_of_line(self):
        duel = read_duel(text_of(*LINES))
        self.assertIs(type(duel), Duel)
        self.assertTrue(alike(duel, DUEL))
        self.assertEqual((duel.sides, duel.ranks, duel.ends, duel.letters), ((0, 1, 1), (2, 0, 1), (0, 1, 0), 3))
        self.assertEqual(duel.row(0, 0), ((1, ()), (0, (2,)), (2, (0, 1))))
        self.assertEqual(duel.row(0, 1), ())
        self.assertEqual(print_duel(duel), text_of(*LINES))

    def test_kinds(self):
        duel = read_duel(text_of(*LINES))
        for told in (duel.sides, duel.ranks, duel.ends, duel.row(0, 0), duel.row(0, 0)[2], duel.row(0, 0)[2][1]):
            self.assertIs(type(told), tuple)
        for number in (*duel.sides, *duel.ranks, *duel.ends, duel.letters, duel.row(0, 0)[0][0]):
            self.assertIs(type(number), int)

    def test_without_rows(self):
        for many in (1, 2, 3):
            for letters in (1, 2, 3):
                text = text_of(*HEAD[:many], f"letters {letters}")
                self.assertEqual(print_duel(read_duel(text)), text)
                self.assertEqual((len(read_duel(text).sides), read_duel(text).letters), (many, letters))

    def test_some_of_the_rows(self):
        for one in range(6):
            for other in range(one, 6):
                text = text_of(*HEAD, *ROWS[one:other])
                self.assertEqual(print_duel(read_duel(text)), text)


class TestFaults(unittest.TestCase):
    def at_fault(self, line, text):
        with self.subTest(text=text):
            self.assertEqual(fault_of(read_duel, text), line)

    def wrong_at(self, place, *wrong):
        """Checks that each of these lines is at fault in place of the line, whatever else is wrong behind it."""
        for line in wrong:
            self.at_fault(place + 1, text_of(*LINES[:place], line, *LINES[place + 1:]))
            self.at_fault(place + 1, text_of(*LINES[:place], line))
            self.at_fault(place + 1, text_of(*LINES[:place], line, "", "letters", "state 9 9 9"))

    def test_right(self):
        self.at_fault(None, text_of(*LINES))

    def test_no_letters(self):
        self.at_fault(1, "")
        for many in (1, 2, 3):
            self.at_fault(many + 1, text_of(*HEAD[:many]))

    def test_behind_the_last_line_feed(self):
        for many in range(1, len(LINES) + 1):
            self.at_fault(many, text_of(*LINES[:many])[:-1])
            for rest in (" ", "x", "letters 1", "state 0 0 0", "on 2 2 go 0", "  ", "~"):
                self.at_fault(many + 1, text_of(*LINES[:many]) + rest)
        for rest in (" ", "letters", "letters 1", "state 0 0 0", "x"):
            self.at_fault(1, rest)

    def test_lines_of_no_form(self):
        wrong = (
            "", " ", "#", "state", "letters", "on", "go", "0", "|", "on 0 0 go", "on 0 0", "state 0 0", "duel",
            "at 0 : 0",
            "move 0", "end", "State 0 0 0", "LETTERS 1", "states 0 0 0", "letter 1", "stat 0 0 0", "o 0 0 go 0",
            "on 0 0 to 0", "on 0 0 Go 0", "on 0 0 goes 0", "on 0 0 go: 0", "on go 0 0 0", "0 state 0 0", "state: 0 0 0",
        )
        for place in range(len(LINES)):
            self.wrong_at(place, *wrong)

    def test_empty_line_anywhere(self):
        for place in range(len(LINES) + 1):
            self.at_fault(place + 1, text_of(*LINES[:place], "", *LINES[place:]))

    def test_blanks(self):
        for place, line in enumerate(LINES):
            self.wrong_at(place, line + " ", " " + line, line + "  ", line + " \\", line.replace(" ", ""))
            for at, sign in enumerate(line):
                if sign == " ":
                    self.wrong_at(place, line[:at] + " " + line[at:], line[:at] + line[at + 1:])
                    self.wrong_at(place, line[:at] + "_" + line[at + 1:], line[:at] + "-" + line[at + 1:])

    def test_each_word_of_each_line(self):
        for place, line in enumerate(LINES):
            words = line.split(" ")
            for at in range(len(words)):
                self.wrong_at(place, *[other for other in digits_around(at, words) if other != line])

    def test_signs_that_texts_do_not_have(self):
        for place, line in enumerate(LINES):
            for sign in ("\r", "\t", "\f", "\v", "\x1c", "\u2028", "\u00a0", "\x00"):
                self.wrong_at(place, line + sign, sign + line, line.replace(" ", sign))
            self.wrong_at(place, line.replace("0", "\u0660") if "0" in line else "letters \u00b3")

    def test_numbers_of_a_state(self):
        for place in range(3):
            words = LINES[place].split(" ")
            for at, most in ((1, 1), (2, 2), (3, 1)):
                wrong = [*range(most + 1, 10), -1, 10, 11, 12, "00", "01", "+1"]
                self.wrong_at(place, *[" ".join((*words[:at], str(number), *words[at + 1:])) for number in wrong])
                for number in range(most + 1):
                    line = " ".join((*words[:at], str(number), *words[at + 1:]))
                    self.at_fault(None, text_of(*LINES[:place], line, *LINES[place + 1:]))
        self.wrong_at(0, "state 0 0", "state 0 0 0 0", "state 0", "state 0 0 0 | 0")

    def test_number_of_letters(self):
        for number in (0, 4, 5, 6, 7, 8, 9, 10, 13, -1, "03", "+3", "3 3"):
            self.wrong_at(3, f"letters {number}")

    def test_fourth_state(self):
        self.at_fault(4, text_of(*HEAD[:3], "state 0 0 0", *LINES[3:]))
        self.at_fault(4, text_of(*HEAD[:3], "state 0 0 0"))
        self.at_fault(4, text_of(*["state 0 0 0"] * 9))

    def test_state_behind_the_letters(self):
        for many in (1, 2, 3):
            self.at_fault(many + 2, text_of(*HEAD[:many], "letters 1", "state 0 0 0"))
        for place in range(4, len(LINES) + 1):
            self.at_fault(place + 1, text_of(*LINES[:place], "state 0 0 0", *LINES[place:]))

    def test_second_line_letters(self):
        for place in range(4, len(LINES) + 1):
            for line in ("letters 3", "letters 1"):
                self.at_fault(place + 1, text_of(*LINES[:place], line, *LINES[place:]))

    def test_no_state_ahead_of_the_letters(self):
        self.at_fault(1, text_of("letters 1"))
        self.at_fault(1, text_of(*LINES[3:]))
        self.at_fault(1, text_of("letters 3", *LINES[:3]))

    def test_on_line_ahead_of_the_letters(self):
        for place in range(4):
            self.at_fault(place + 1, text_of(*LINES[:place], "on 0 0 go 0", *LINES[place:]))
        self.at_fault(1, text_of("on 0 0 go 0"))

    def test_order_of_on_lines(self):
        for one in range(4, len(LINES)):
            for other in range(one, len(LINES)):
                # The line of an earlier place, or of the same, behind the other one.
                self.at_fault(other + 2, text_of(*LINES[:other + 1], LINES[one], *LINES[other + 1:]))
        for one in range(4, len(LINES) - 1):
            turned = [*LINES[:one], LINES[one + 1], LINES[one], *LINES[one + 2:]]
            self.at_fault(one + 2, text_of(*turned))
        self.at_fault(6, text_of(*HEAD, "on 1 0 go 0", "on 0 1 go 0"))
        self.at_fault(6, text_of(*HEAD, "on 0 1 go 0", "on 0 0 go 0"))
        self.at_fault(6, text_of(*HEAD, "on 0 1 go 0", "on 0 1 go 1"))
        self.at_fault(None, text_of(*HEAD, "on 0 2 go 0", "on 1 0 go 0"))

    def test_state_and_letter_of_an_on_line(self):
        for wrong in range(3, 10):
            self.wrong_at(4, f"on {wrong} 0 go 0", f"on 0 {wrong} go 0")
        for states in (1, 2):
            for letters in (1, 2):
                for state in range(4):
                    for letter in range(4):
                        right = state < states and letter < letters
                        text = text_of(*["state 0 0 0"] * states, f"letters {letters}", f"on {state} {letter} go 0")
                        self.at_fault(None if right else states + 2, text)

    def test_moves_out_of_bounds(self):
        for wrong in range(3, 10):
            self.wrong_at(4, f"on 0 0 go {wrong}", f"on 0 0 go 0 {wrong}", f"on 0 0 go 0 0 {wrong}")
            self.wrong_at(4, f"on 0 0 go 0 | {wrong}", f"on 0 0 go 0 | 1 {wrong}", f"on 0 0 go 0 | 1 | 2 0 {wrong}")
        for states in (1, 2):
            for letters in (1, 2):
                head = [*["state 0 0 0"] * states, f"letters {letters}"]
                for state in range(4):
                    for letter in range(4):
                        right = state < states and letter < letters
                        for move in (f"{state} {letter}", f"{state} 0 {letter}", f"{state} {letter} 0"):
                            self.at_fault(None if right else states + 2, text_of(*head, f"on 0 0 go {move}"))

    def test_moves_may_tell_each_state(self):
        # They all stand ahead of the letters: also a move of the first on-line may lead to the last state.
        self.at_fault(None, text_of("state 0 0 0", "state 0 0 0", "state 0 0 0", "letters 1", "on 0 0 go 2 | 1 | 0"))

    def test_too_many_moves(self):
        self.wrong_at(4, "on 0 0 go 0 | 1 | 2 | 0 0", "on 0 0 go 0 | 0 0 | 0 1 | 0 2 | 1")

    def test_too_long_words(self):
        self.wrong_at(4, "on 0 0 go 0 0 0 0", "on 0 0 go 1 | 0 0 0 0", "on 0 0 go 0 0 0 0 | 1", "on 0 0 go 0 1 2 0 1 2")

    def test_move_twice(self):
        self.wrong_at(
            4, "on 0 0 go 0 | 0", "on 0 0 go 0 1 | 0 1", "on 0 0 go 2 0 1 | 2 0 1", "on 0 0 go 0 | 1 | 0",
            "on 0 0 go 1 | 0 | 0", "on 0 0 go 0 | 0 | 1", "on 0 0 go 0 | 0 | 0",
        )
        self.at_fault(None, text_of(*HEAD, "on 0 0 go 0 | 0 0 | 0 0 0"))
        self.at_fault(None, text_of(*HEAD, "on 0 0 go 0 0 1 | 0 1 0 | 0 1 1"))

    def test_form_of_moves(self):
        self.wrong_at(
            4, "on 0 0 go |", "on 0 0 go | 0", "on 0 0 go 0 |", "on 0 0 go 0 | | 1", "on 0 0 go 0 || 1",
            "on 0 0 go 0|1",
            "on 0 0 go 0 |1", "on 0 0 go 0| 1", "on 0 0 go 0 , 1", "on 0 0 go 00", "on 0 0 go 0 11", "on 0 0 go 0 / 1",
            "on 0 0 go  0", "on 0 0 go 0  | 1", "on 0 0 go 0 |  1", "on 0 0 go 0 go 1", "on 0 0 go go 0",
            "on 0 0 go 0 ;",
            "on 0 0 0 go 0", "on 0 go 0", "on 0 0 go 0 | 1 |", "on 0 0 go - ", "on 0 0 go -1", "on 0 0 go 0 | x",
        )

    def test_first_of_two_faults(self):
        wrong = {
            0: ("state 2 0 0", "letters 1", "on 0 0 go 0", ""), 1: ("state 0 3 0", "state 0 0 0 ", "on 0 0 go 0"),
            2: ("state 0 0 2", "state", "on 0 0 go 0"), 3: ("letters 0", "state 0 0 0", "letters 4", "on 0 0 go 0"),
            4: ("on 0 0 go", "letters 3", "on 0 0 go 3"), 5: ("on 0 0 go 0", "state 0 0 0", "on 0 2 go 0 | 0"),
            6: ("on 0 2 go 0", "letters 2", "on 1 1 go 0 0 0 0"), 7: ("on 1 1 go 0", "on 2 0 go 0 | 1 | 2 | 0 0"),
            8: ("on 2 0 go 0", "on 2 3 go 0", "letters 3"),
        }
        for one, lines in wrong.items():
            for other in range(one + 1, 9):
                for first in lines:
                    for second in wrong[other]:
                        text = text_of(*LINES[:one], first, *LINES[one + 1:other], second, *LINES[other + 1:])
                        self.at_fault(one + 1, text)
                        self.at_fault(one + 1, text + "x")
                        self.at_fault(one + 1, text[:-1])

    def test_fault_that_comes_of_a_line_ahead(self):
        # Each line is right as such; the first one is at fault that may not stand behind those ahead.
        self.at_fault(2, text_of("state 0 0 0", "on 0 0 go 0", "letters 1"))
        self.at_fault(3, text_of("state 0 0 0", "letters 1", "on 0 1 go 0"))
        self.at_fault(3, text_of("state 0 0 0", "letters 1", "letters 2", "on 0 1 go 0"))
        self.at_fault(3, text_of("state 0 0 0", "letters 1", "on 0 0 go 1", "state 0 0 0"))

    def test_long_texts(self):
        self.at_fault(4, text_of("state 0 0 0", "letters 1", "on 0 0 go 0") + "\n" * 100000)
        self.at_fault(3, text_of("state 0 0 0", "letters 1", "on 0 0 go 0" + " 0" * 100000))
        self.at_fault(3, text_of("state 0 0 0", "letters 1", "on 0 0 go 0" + " | 0" * 100000))
        self.at_fault(4, "state 0 0 0\n" * 100000)


if __name__ == "__main__":
    unittest.main()
