import unittest
from itertools import product

from tests.drawing import Drawer, drawn, slow
from tests.stacks import by_machine, played_out, stacks_up_to, states_of, with_rows, won_among_low, won_states
from tests.turning import near
from towerduel.duels import Duel, after, alike
from towerduel.errors import ShapeError
from towerduel.families import holds
from towerduel.machines import count_wins, first_win, good_moves, machine, part, winner

DUELS = slow() + drawn()
# What takes longer is asked of fewer duels.
SOME = slow() + drawn(
    ((2, 2, 700), (1, 2, 150), (2, 1, 300), (3, 1, 500), (3, 2, 250), (2, 3, 150), (1, 3, 150), (3, 3, 30)), seed=11
)


def read(rows, stack):
    """The winning states of a stack, by the rows of a machine."""
    number = 0
    for letter in reversed(stack):
        number = rows[number][1][letter]
    return rows[number][0]


def single(duel, drawer):
    """The duel with at most one move in each row."""
    rows = with_rows(duel, lambda spot, row: row[:1] if drawer.number(8) else ())
    return Duel(duel.sides, duel.ranks, duel.ends, duel.letters, rows)


class TestMachine(unittest.TestCase):
    def test_enough_are_drawn(self):
        self.assertGreaterEqual(len(DUELS), 2000)
        self.assertGreaterEqual(len(SOME), 2000)

    def test_form_of_point_12(self):
        longest = 0
        for duel in DUELS:
            rows = machine(duel)
            self.assertIs(type(rows), tuple)
            self.assertEqual(rows[0][0], won_states(duel, 0, [s for s in states_of(duel) if duel.ends[s] == 0]))
            self.assertEqual(len({states for states, _ in rows}), len(rows))
            reached = 1
            for row in rows:
                self.assertIs(type(row), tuple)
                states, steps = row
                self.assertIs(type(states), tuple)
                self.assertEqual(list(states), sorted(states))
                self.assertIs(type(steps), tuple)
                self.assertEqual(len(steps), duel.letters)
                for number in steps:
                    self.assertLessEqual(number, reached)
                    reached = max(reached, number + 1)
            self.assertEqual(reached, len(rows))
            longest = max(longest, len(rows))
        self.assertGreater(longest, 5)

    def test_steps_by_point_11(self):
        for duel in DUELS:
            rows = machine(duel)
            for states, steps in rows:
                claim = tuple((state, rank) for state in states for rank in sorted(set(duel.ranks)))
                for letter, number in enumerate(steps):
                    held = tuple(state for state in states_of(duel) if holds(duel, 0, state, letter, claim))
                    self.assertEqual(rows[number][0], held)


class TestWinner(unittest.TestCase):
    def test_by_the_moves(self):
        for duel in SOME:
            wins = by_machine(duel, 5)
            for stack in stacks_up_to(duel.letters, 4):
                for state in states_of(duel):
                    if stack:
                        side = duel.sides[state]
                        behind = [after(stack, move) for move in duel.row(state, stack[0])]
                        can_win = any((new in wins[rest]) == (side == 0) for new, rest in behind)
                        self.assertEqual(state in wins[stack], can_win == (side == 0))
                    else:
                        self.assertEqual(state in wins[stack], duel.ends[state] == 0)

    def test_all_low_stacks_against_the_machine(self):
        for duel in SOME:
            for stack, states in by_machine(duel, 4).items():
                for state in states_of(duel):
                    self.assertEqual(winner(duel, state, stack), 0 if state in states else 1)

    def test_single_plays(self):
        drawer = Drawer(12)
        won = [0, 0]
        for duel in DUELS:
            duel = single(duel, drawer)
            for stack, states in by_machine(duel, 4).items():
                for state in states_of(duel):
                    told = played_out(duel, state, stack)
                    won[told] += 1
                    self.assertEqual(0 if state in states else 1, told)
            stack = drawer.numbers(drawer.number(6), duel.letters)
            for state in states_of(duel):
                self.assertEqual(winner(duel, state, stack), played_out(duel, state, stack))
        self.assertGreater(min(won), 30000)

    def test_tall_stacks(self):
        drawer = Drawer(13)
        for duel in DUELS:
            rows = machine(duel)
            stack = drawer.numbers(40, duel.letters)
            for state in states_of(duel):
                self.assertEqual(winner(duel, state, stack), 0 if state in read(rows, stack) else 1)

    def test_low_stacks_as_a_finite_game(self):
        sure = unsure = 0
        for duel in SOME:
            height = {1: 10, 2: 5, 3: 3}[duel.letters]
            wins = by_machine(duel, height)
            for_0, for_1 = [won_among_low(duel, height, side) for side in (0, 1)]
            self.assertLessEqual(for_1, for_0)
            for stack in wins:
                for state in states_of(duel) if stack else ():
                    if (state, stack) in for_1:
                        self.assertIn(state, wins[stack])
                    elif (state, stack) not in for_0:
                        self.assertNotIn(state, wins[stack])
                    else:
                        unsure += 1
                        continue
                    sure += 1
        self.assertGreater(sure, unsure)


class TestStacks(unittest.TestCase):
    def test_count_wins_of_low_stacks(self):
        for duel in DUELS:
            wins = by_machine(duel, 4)
            for height in range(5):
                stacks = [stack for stack in wins if len(stack) == height]
                for state in states_of(duel):
                    many = len([stack for stack in stacks if state in wins[stack]])
                    self.assertEqual(count_wins(duel, state, height), many)

    def test_count_wins_of_tall_stacks(self):
        drawer = Drawer(14)
        for duel in SOME[::6]:
            rows = machine(duel)
            counts = {0: 1}
            heights = {drawer.number(1000), drawer.number(100), 1000}
            for height in range(1001):
                if height in heights:
                    for state in states_of(duel):
                        many = sum(many for number, many in counts.items() if state in rows[number][0])
                        self.assertEqual(count_wins(duel, state, height), many)
                above = dict.fromkeys(range(len(rows)), 0)
                for number, many in counts.items():
                    for to in rows[number][1]:
                        above[to] += many
                counts = above

    def test_first_win_by_search(self):
        found = []
        for duel in DUELS:
            rows = machine(duel)
            wins = by_machine(duel, 4)
            for state, side in product(states_of(duel), (0, 1)):
                won = [stack for stack in wins if state in won_states(duel, side, wins[stack])]
                told = first_win(duel, side, state)
                found.append(told)
                if won:
                    self.assertEqual(told, won[0])
                elif told is None:
                    self.assertFalse([states for states, _ in rows if state in won_states(duel, side, states)])
                else:
                    self.assertGreater(len(told), 4)
                    self.assertEqual(winner(duel, state, told), side)
        self.assertGreater(found.count(None), 1000)
        for height in (0, 1, 2):
            self.assertGreater(len([told for told in found if told is not None and len(told) == height]), 30)

    def part_by_search(self, one, other):
        """Where the duels part among stacks of up to four letters; True if it is not among these."""
        wins, others = by_machine(one, 4), by_machine(other, 4)
        for stack in wins:
            for state in states_of(one):
                if (state in wins[stack]) != (state in others[stack]):
                    return stack, state
        rows, other_rows = machine(one), machine(other)
        pairs = {(0, 0)}
        while True:
            steps = {step for a, b in pairs for step in zip(rows[a][1], other_rows[b][1])}
            if steps <= pairs:
                break
            pairs |= steps
        return True if any(rows[a][0] != other_rows[b][0] for a, b in pairs) else None

    def test_part_by_search(self):
        drawer = Drawer(15)
        found = []
        for duel in DUELS:
            for other in (near(duel, drawer), near(near(duel, drawer), drawer)):
                told = part(duel, other)
                self.assertEqual(part(other, duel), told)
                by_search = self.part_by_search(duel, other)
                if by_search is True:
                    self.assertGreater(len(told[0]), 4)
                else:
                    self.assertEqual(told, by_search)
                found.append(told)
        self.assertGreater(found.count(None), 1000)
        for height in (0, 1, 2):
            self.assertGreater(len([told for told in found if told is not None and len(told[0]) == height]), 30)

    def test_part_of_other_shapes(self):
        for one, other in zip(SOME, SOME[::-1]):
            shapes = [(len(duel.sides), duel.letters) for duel in (one, other)]
            if shapes[0] == shapes[1]:
                continue
            with self.assertRaises(ShapeError) as caught:
                part(one, other)
            self.assertEqual(caught.exception.part, "states" if shapes[0][0] != shapes[1][0] else "letters")

    def test_good_moves_against_the_winners_behind(self):
        drawer = Drawer(16)
        found = {"none": 0, "some": 0, "all": 0}
        for duel in DUELS:
            stacks = [drawer.numbers(height, duel.letters) for height in (1, 2, 4)]
            for state, stack in product(states_of(duel), [(), *stacks]):
                side, row = duel.sides[state], duel.row(state, stack[0]) if stack else ()
                behind = [after(stack, move) for move in row]
                good = tuple(number for number, place in enumerate(behind) if winner(duel, *place) == side)
                told = good_moves(duel, state, stack)
                self.assertEqual(told, good)
                self.assertIs(type(told), tuple)
                if row:
                    found["all" if len(good) == len(row) else "some" if good else "none"] += 1
        self.assertGreater(min(found.values()), 1000)

    def test_nothing_is_changed(self):
        for duel in SOME[::4]:
            before = Duel(duel.sides, duel.ranks, duel.ends, duel.letters, with_rows(duel, lambda spot, row: row))
            told = [(machine(duel), first_win(duel, 0, 0), good_moves(duel, 0, (0,))) for _ in range(2)]
            self.assertEqual(told[0], told[1])
            self.assertTrue(alike(duel, before))


if __name__ == "__main__":
    unittest.main()
