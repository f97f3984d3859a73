import itertools
import unittest

from tests.drawing import Drawer
from towerduel.duels import Duel, after, alike
from towerduel.errors import ShapeError

ROWS = {
    (0, 0): ((0, ()), (1, (0,)), (1, (1, 0))),
    (1, 1): ((1, (1, 1)),),
    (1, 0): (),
}
GOOD = {"sides": (0, 1), "ranks": (0, 2), "ends": (1, 0), "letters": 2, "rows": ROWS}

WRONG_STATES = (
    {"sides": (), "ranks": (), "ends": ()},
    {"sides": (0,) * 4, "ranks": (0,) * 4, "ends": (0,) * 4},
    {"sides": (0,)},
    {"sides": (0, 1, 0)},
    {"ranks": (0,)},
    {"ranks": (0, 1, 2)},
    {"ends": (1,)},
    {"ends": (1, 0, 1)},
    {"sides": ()},
    {"ranks": ()},
    {"ends": ()},
    {"sides": (0, 2)},
    {"sides": (-1, 0)},
    {"ranks": (0, 3)},
    {"ranks": (-1, 0)},
    {"ends": (2, 0)},
    {"ends": (0, -1)},
)
WRONG_LETTERS = ({"letters": 0}, {"letters": 4}, {"letters": -1})
WRONG_ROWS = (
    {(2, 0): ()},
    {(0, 2): ()},
    {(-1, 0): ()},
    {(0, -1): ((0, ()),)},
    {(0, 0, 0): ()},
    {(0,): ()},
    {0: ()},
    {(0, 0): ((2, ()),)},
    {(0, 0): ((-1, ()),)},
    {(1, 1): ((0, ()), (2, (0,)))},
    {(0, 0): ((0, (2,)),)},
    {(0, 0): ((0, (-1,)),)},
    {(0, 0): ((0, (0, 2)),)},
    {(0, 0): ((0, (2, 0)),)},
    {(0, 0): ((0, (0, 0, 0)),)},
    {(0, 0): ((0, ()), (0, (0,)), (1, ()), (1, (0,)))},
    {(0, 0): ((0, ()), (0, ()))},
    {(1, 0): ((1, (0, 1)), (0, ()), (1, (0, 1)))},
    {(0, 0): ((0,),)},
    {(0, 0): ((0, (), ()),)},
    {(0, 0): ((0, 0),)},
    {(0, 0): (0,)},
    {(0, 0): ((0, ()),), (1, 1): ((0, (0, 0, 1)),)},
)


def part_of(**told):
    """The part that Duel finds wrong, None if there is none."""
    try:
        Duel(**{**GOOD, **told})
    except ShapeError as error:
        return error.part
    return None


class TestDuel(unittest.TestCase):
    def test_fields_and_rows(self):
        duel = Duel(**GOOD)
        self.assertEqual((duel.sides, duel.ranks, duel.ends, duel.letters), ((0, 1), (0, 2), (1, 0), 2))
        self.assertEqual(duel.row(0, 0), ((0, ()), (1, (0,)), (1, (1, 0))))
        self.assertEqual(duel.row(0, 1), ())
        self.assertEqual(duel.row(1, 0), ())
        self.assertEqual(duel.row(1, 1), ((1, (1, 1)),))

    def test_arguments_by_position(self):
        duel = Duel((1,), (2,), (0,), 1, {(0, 0): ((0, (0, 0)),)})
        self.assertEqual((duel.sides, duel.ranks, duel.ends, duel.letters), ((1,), (2,), (0,), 1))
        self.assertEqual(duel.row(0, 0), ((0, (0, 0)),))

    def test_all_sizes(self):
        drawer = Drawer(7)
        for states, letters in itertools.product((1, 2, 3), repeat=2):
            for _ in range(20):
                rows = drawer.rows(states, letters)
                heads = drawer.numbers(states, 2), drawer.numbers(states, 3), drawer.numbers(states, 2)
                duel = Duel(*heads, letters, rows)
                self.assertEqual((duel.sides, duel.ranks, duel.ends), heads)
                self.assertEqual({spot: duel.row(*spot) for spot in rows}, rows)

    def test_no_rows_at_all(self):
        duel = Duel((0, 1, 0), (2, 1, 0), (1, 1, 0), 3, {})
        for state, letter in itertools.product(range(3), repeat=2):
            self.assertEqual(duel.row(state, letter), ())

    def test_dict_of_rows_is_not_kept_and_not_changed(self):
        rows = {(0, 0): ((0, ()),)}
        duel = Duel((0,), (0,), (0,), 2, rows)
        self.assertEqual(rows, {(0, 0): ((0, ()),)})
        rows[0, 1] = ((0, (0,)),)
        rows[0, 0] = ()
        self.assertEqual((duel.row(0, 0), duel.row(0, 1)), (((0, ()),), ()))
        rows.clear()
        self.assertEqual((duel.row(0, 0), duel.row(0, 1)), (((0, ()),), ()))

    def test_good_ones(self):
        self.assertIsNone(part_of())
        self.assertIsNone(part_of(letters=3))
        self.assertIsNone(part_of(rows={(1, 1): ((0, ()), (1, ()), (1, (1, 1)))}))

    def test_wrong_states(self):
        for told in WRONG_STATES:
            self.assertEqual(part_of(**told), "states", told)

    def test_wrong_letters(self):
        for told in WRONG_LETTERS:
            self.assertEqual(part_of(**told), "letters", told)
            self.assertEqual(part_of(**told, rows={}), "letters", told)

    def test_wrong_moves(self):
        for rows in WRONG_ROWS:
            self.assertEqual(part_of(rows=rows), "moves", rows)
        self.assertEqual(part_of(letters=1), "moves")
        self.assertEqual(part_of(sides=(0,), ranks=(0,), ends=(0,)), "moves")

    def test_order_of_two_and_three(self):
        for states in WRONG_STATES:
            for letters in WRONG_LETTERS:
                self.assertEqual(part_of(**states, **letters), "states")
                self.assertEqual(part_of(**states, **letters, rows=WRONG_ROWS[0]), "states")
            for rows in WRONG_ROWS:
                self.assertEqual(part_of(**states, rows=rows), "states")
        for letters in WRONG_LETTERS:
            for rows in WRONG_ROWS:
                self.assertEqual(part_of(**letters, rows=rows), "letters")


class TestAlike(unittest.TestCase):
    def turned(self, **told):
        """Whether the duel is alike, both ways round, one in which this is told."""
        one, other = Duel(**GOOD), Duel(**{**GOOD, **told})
        self.assertIs(alike(one, other), alike(other, one))
        return alike(one, other)

    def test_made_anew(self):
        duel = Duel(**GOOD)
        self.assertIs(alike(duel, duel), True)
        self.assertIs(self.turned(), True)
        self.assertIs(self.turned(rows=dict(reversed(list(ROWS.items())))), True)

    def test_missing_row_beside_empty_one(self):
        self.assertIs(self.turned(rows={**ROWS, (0, 1): ()}), True)
        self.assertIs(self.turned(rows={spot: row for spot, row in ROWS.items() if row}), True)

    def test_one_thing_turned(self):
        told = (
            {"sides": (1, 1)},
            {"sides": (0, 0)},
            {"ranks": (0, 1)},
            {"ranks": (1, 2)},
            {"ends": (0, 0)},
            {"ends": (1, 1)},
            {"letters": 3},
            {"rows": {**ROWS, (0, 1): ((0, ()),)}},
            {"rows": {**ROWS, (1, 1): ()}},
            {"rows": {**ROWS, (1, 1): ((0, (1, 1)),)}},
            {"rows": {**ROWS, (1, 1): ((1, (1, 0)),)}},
            {"rows": {**ROWS, (0, 0): ((0, ()), (1, (0,)))}},
            {"rows": {}},
        )
        for turn in told:
            self.assertIs(self.turned(**turn), False, turn)

    def test_other_order_of_moves(self):
        self.assertIs(self.turned(rows={**ROWS, (0, 0): tuple(reversed(ROWS[0, 0]))}), False)

    def test_other_numbers_of_states_and_letters(self):
        duels = [
            Duel((0,) * states, (0,) * states, (0,) * states, letters, {})
            for states, letters in itertools.product((1, 2, 3), repeat=2)
        ]
        for one, other in itertools.product(duels, repeat=2):
            self.assertIs(alike(one, other), one is other)


class TestAfter(unittest.TestCase):
    def test_pop(self):
        self.assertEqual(after((2,), (1, ())), (1, ()))
        self.assertEqual(after((2, 0, 1), (0, ())), (0, (0, 1)))

    def test_change(self):
        self.assertEqual(after((2,), (1, (0,))), (1, (0,)))
        self.assertEqual(after((2, 0, 1), (2, (1,))), (2, (1, 0, 1)))

    def test_push(self):
        self.assertEqual(after((2,), (1, (0, 1))), (1, (0, 1)))
        self.assertEqual(after((2, 0, 1), (0, (1, 2))), (0, (1, 2, 0, 1)))


if __name__ == "__main__":
    unittest.main()
