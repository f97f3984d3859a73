import unittest

from tests.stacks import with_rows
from towerduel.duels import Duel, alike
from towerduel.errors import ShapeError, WorkshopError
from towerduel.families import families
from towerduel.machines import machine, winner
from towerduel.workshops import Workshop

DUEL = Duel(
    (0, 1), (1, 0), (0, 1), 2,
    {(0, 0): ((0, ()), (1, (0, 0))), (1, 0): ((0, ()),), (0, 1): ((1, (0,)), (0, ())), (1, 1): ((1, (1, 0)),)},
)
POP = (0, ())


def of_letters(*words, states=1):
    """A duel in which each letter has a pop, and such a word: what it uses."""
    rows = {(state, letter): (POP, (0, word)) if word else (POP,) for state in range(states)
            for letter, word in enumerate(words)}
    return Duel((0,) * states, (0, 1, 2)[:states], (0, 1, 0)[:states], len(words), rows)


class WorkshopCase(unittest.TestCase):
    def tells(self, workshop, duel):
        """Checks that the workshop tells of this duel."""
        now = workshop.duel()
        self.assertIs(type(now), Duel)
        self.assertTrue(alike(now, duel))
        for side in (0, 1):
            self.assertEqual(workshop.families(side), families(duel, side))
        self.assertEqual(workshop.machine(), machine(duel))
        for state in range(len(duel.sides)):
            for stack in ((), (0,), (duel.letters - 1, 0), (0, duel.letters - 1, 0, 0)):
                self.assertEqual(workshop.winner(state, stack), winner(duel, state, stack))

    def refused(self, word, method):
        with self.assertRaises(WorkshopError) as caught:
            method()
        self.assertEqual(caught.exception.why, word)

    def no_edit(self, part, method, *told):
        with self.assertRaises(ShapeError) as caught:
            method(*told)
        self.assertEqual(caught.exception.part, part)

    def nothing_left(self, workshop):
        self.refused("nothing to undo", workshop.undo)
        self.refused("nothing to make again", workshop.again)


def changed(duel, **told):
    rows = with_rows(duel, lambda spot, row: told.get("rows", {}).get(spot, row))
    heads = [told.get(name, getattr(duel, name)) for name in ("sides", "ranks", "ends")]
    return Duel(*heads, duel.letters, rows)


EDITS = (
    ("set_row", (0, 1, ((1, (0, 1)),)), changed(DUEL, rows={(0, 1): ((1, (0, 1)),)})),
    ("set_row", (1, 0, ()), changed(DUEL, rows={(1, 0): ()})),
    ("set_sides", ((1, 1),), changed(DUEL, sides=(1, 1))),
    ("set_ranks", ((2, 2),), changed(DUEL, ranks=(2, 2))),
    ("set_ends", ((1, 0),), changed(DUEL, ends=(1, 0))),
)


class TestEdits(WorkshopCase):
    def test_beginning(self):
        workshop = Workshop(DUEL)
        self.tells(workshop, DUEL)
        self.nothing_left(workshop)

    def test_each_edit_undone_and_made_again(self):
        for name, told, edited in EDITS:
            for asked in (False, True):
                with self.subTest(edit=name, told=told, asked=asked):
                    workshop = Workshop(DUEL)
                    if asked:
                        workshop.machine()
                    self.assertIsNone(getattr(workshop, name)(*told))
                    self.tells(workshop, edited)
                    self.refused("nothing to make again", workshop.again)
                    self.assertIsNone(workshop.undo())
                    self.tells(workshop, DUEL)
                    self.refused("nothing to undo", workshop.undo)
                    self.assertIsNone(workshop.again())
                    self.tells(workshop, edited)
                    self.refused("nothing to make again", workshop.again)
                    workshop.undo()
                    self.tells(workshop, DUEL)

    def test_several_in_a_row(self):
        workshop = Workshop(DUEL)
        duels = [DUEL]
        for name, told, _ in EDITS:
            getattr(workshop, name)(*told)
            duels.append(workshop.duel())
        rows = {(0, 0): ((0, ()), (1, (0, 0))), (0, 1): ((1, (0, 1)),), (1, 1): ((1, (1, 0)),)}
        self.tells(workshop, Duel((1, 1), (2, 2), (1, 0), 2, rows))
        for duel in duels[-2::-1]:
            workshop.undo()
            self.tells(workshop, duel)
        self.assertTrue(alike(workshop.duel(), DUEL))
        self.refused("nothing to undo", workshop.undo)
        for duel in duels[1:]:
            workshop.again()
            self.tells(workshop, duel)
        self.refused("nothing to make again", workshop.again)

    def test_edit_behind_an_undoing(self):
        workshop = Workshop(DUEL)
        workshop.set_ends((1, 1))
        workshop.set_ends((0, 0))
        workshop.set_sides((1, 0))
        workshop.undo()
        workshop.undo()
        workshop.set_ranks((0, 0))
        self.refused("nothing to make again", workshop.again)
        self.tells(workshop, changed(DUEL, ends=(1, 1), ranks=(0, 0)))
        workshop.undo()
        self.tells(workshop, changed(DUEL, ends=(1, 1)))
        workshop.undo()
        self.tells(workshop, DUEL)
        self.refused("nothing to undo", workshop.undo)
        workshop.again()
        workshop.again()
        self.tells(workshop, changed(DUEL, ends=(1, 1), ranks=(0, 0)))

    def test_what_was_set_already_is_an_edit(self):
        same = {
            "set_row": (0, 0, DUEL.row(0, 0)), "set_sides": ((0, 1),), "set_ranks": ((1, 0),), "set_ends": ((0, 1),),
        }
        for name, told in same.items():
            workshop = Workshop(DUEL)
            workshop.set_ends((1, 1))
            workshop.undo()
            getattr(workshop, name)(*told)
            # It ends what could be made again, and it can be undone.
            self.refused("nothing to make again", workshop.again)
            workshop.undo()
            self.refused("nothing to undo", workshop.undo)
            workshop.again()
            self.tells(workshop, DUEL)
            self.refused("nothing to make again", workshop.again)

    def test_row_that_was_empty(self):
        workshop = Workshop(Duel((0,), (0,), (1,), 1, {}))
        workshop.set_row(0, 0, ((0, (0, 0)), (0, ())))
        self.tells(workshop, Duel((0,), (0,), (1,), 1, {(0, 0): ((0, (0, 0)), (0, ()))}))
        workshop.set_row(0, 0, ())
        self.tells(workshop, Duel((0,), (0,), (1,), 1, {}))


class TestErrors(WorkshopCase):
    def wrong_edits(self, workshop):
        """Makes all wrong edits, and checks what they raise."""
        for state, letter in ((2, 0), (0, 2), (-1, 0), (0, -1), (3, 3), (60, 0)):
            self.no_edit("moves", workshop.set_row, state, letter, ())
            self.no_edit("moves", workshop.set_row, state, letter, (POP,))
        for row in (
            (POP, POP), ((2, ()),), ((-1, ()),), ((0, (2,)),), ((0, (-1,)),), ((0, (0, 0, 0)),), ((0, (0, 2)),),
            (POP, (0, (0,)), (0, (1,)), (1, ())), (POP, (1, ()), POP), (POP, (1, (1, 2))),
        ):
            self.no_edit("moves", workshop.set_row, 0, 0, row)
        for method, over in ((workshop.set_sides, 2), (workshop.set_ranks, 3), (workshop.set_ends, 2)):
            for told in ((), (0,), (0, 0, 0), (0, 0, 0, 0), (0, over), (over, 0), (0, -1), (-1, 1), (over, over, 0)):
                self.no_edit("states", method, told)

    def test_wrong_edits_change_nothing(self):
        for past in range(3):
            for future in range(3):
                workshop = Workshop(DUEL)
                edits = [*EDITS[2:], EDITS[0]]
                for name, told, _ in edits[:past + future]:
                    getattr(workshop, name)(*told)
                for _ in range(future):
                    workshop.undo()
                duel = workshop.duel()
                workshop.machine()
                reckoned = workshop.reckoned()
                self.wrong_edits(workshop)
                self.tells(workshop, duel)
                self.assertEqual(workshop.reckoned(), reckoned)
                for _ in range(future):
                    workshop.again()
                self.refused("nothing to make again", workshop.again)
                for _ in range(past + future):
                    workshop.undo()
                self.refused("nothing to undo", workshop.undo)
                self.tells(workshop, DUEL)

    def test_wrong_edits_reckon_nothing_and_take_away_nothing(self):
        workshop = Workshop(DUEL)
        self.wrong_edits(workshop)
        self.assertEqual(workshop.reckoned(), (0, 0))
        workshop.machine()
        self.wrong_edits(workshop)
        workshop.machine()
        self.assertEqual(workshop.reckoned(), (1, 1))
        self.nothing_left(workshop)

    def test_nothing_to_undo_or_to_make_again(self):
        workshop = Workshop(DUEL)
        for _ in range(2):
            self.nothing_left(workshop)
            self.tells(workshop, DUEL)
        self.assertEqual(workshop.reckoned(), (1, 1))
        workshop.set_ends((1, 1))
        self.refused("nothing to make again", workshop.again)
        workshop.undo()
        self.refused("nothing to undo", workshop.undo)
        # The refusal took nothing from what can be made again.
        workshop.again()
        self.tells(workshop, changed(DUEL, ends=(1, 1)))
        self.refused("nothing to make again", workshop.again)
        workshop.undo()
        self.tells(workshop, DUEL)

    def test_states_ahead_of_moves(self):
        # Whatever is set, the rest of the duel is right: so there is one fault at the most.
        workshop = Workshop(DUEL)
        self.no_edit("states", workshop.set_sides, (0,))
        self.no_edit("moves", workshop.set_row, 5, 5, ((7, (7, 7, 7)),) * 7)


class TestReckoned(WorkshopCase):
    def test_kind(self):
        for letters in (1, 2, 3):
            workshop = Workshop(Duel((0,), (0,), (0,), letters, {}))
            self.assertEqual(workshop.reckoned(), (0,) * letters)
            self.assertIs(type(workshop.reckoned()), tuple)
            workshop.machine()
            self.assertEqual(workshop.reckoned(), (1,) * letters)
            for many in workshop.reckoned():
                self.assertIs(type(many), int)

    def test_whatever_is_asked_for(self):
        asks = (
            lambda workshop: workshop.families(0), lambda workshop: workshop.families(1),
            lambda workshop: workshop.machine(),
            lambda workshop: workshop.winner(0, ()), lambda workshop: workshop.winner(1, (0,)),
            lambda workshop: workshop.winner(0, (1, 1, 1)),
        )
        for ask in asks:
            workshop = Workshop(DUEL)
            ask(workshop)
            self.assertEqual(workshop.reckoned(), (1, 1))
            for other in asks:
                other(workshop)
            self.assertEqual(workshop.reckoned(), (1, 1))
            workshop.set_ranks((2, 1))
            self.assertEqual(workshop.reckoned(), (1, 1))
            ask(workshop)
            self.assertEqual(workshop.reckoned(), (2, 2))
            for other in asks:
                other(workshop)
            self.assertEqual(workshop.reckoned(), (2, 2))

    def test_what_is_not_asked_for_is_not_reckoned(self):
        workshop = Workshop(DUEL)
        for name, told, _ in EDITS:
            getattr(workshop, name)(*told)
        workshop.duel()
        workshop.undo()
        workshop.again()
        self.assertEqual(workshop.reckoned(), (0, 0))
        workshop.winner(0, ())
        self.assertEqual(workshop.reckoned(), (1, 1))

    def reckons(self, duel, *deeds):
        """Lets a workshop do deeds; behind each one it is asked for the machine, and the counts that come are told."""
        workshop = Workshop(duel)
        workshop.machine()
        before = workshop.reckoned()
        self.assertEqual(before, (1,) * duel.letters)
        for name, told, counted in deeds:
            with self.subTest(deed=name, told=told):
                getattr(workshop, name)(*told)
                self.assertEqual(workshop.reckoned(), before)
                self.tells(workshop, workshop.duel())
                now = workshop.reckoned()
                self.assertEqual(tuple(one - other for one, other in zip(now, before)), counted)
                before = now

    def test_letters_that_use_none(self):
        duel = of_letters((), (), ())
        self.reckons(
            duel, ("set_row", (0, 0, ()), (1, 0, 0)), ("set_row", (0, 1, ()), (0, 1, 0)),
            ("set_row", (0, 2, ()), (0, 0, 1)),
            ("undo", (), (0, 0, 1)), ("undo", (), (0, 1, 0)), ("undo", (), (1, 0, 0)), ("again", (), (1, 0, 0)),
        )

    def test_chain(self):
        # The letter 0 uses 1, which uses 2.
        self.reckons(
            of_letters((1,), (2,), ()), ("set_row", (0, 2, ()), (1, 1, 1)), ("undo", (), (1, 1, 1)),
            ("set_row", (0, 1, ((0, (2,)),)), (1, 1, 0)), ("set_row", (0, 0, ((0, (1,)),)), (1, 0, 0)),
            ("undo", (), (1, 0, 0)), ("undo", (), (1, 1, 0)), ("again", (), (1, 1, 0)), ("again", (), (1, 0, 0)),
        )
        # And the other way round, by pushes: in both places of a word.
        first = ("set_row", (0, 0, ()), (1, 1, 1))
        self.reckons(of_letters((), (0, 1), (2, 1)), first, ("set_row", (0, 2, ()), (0, 0, 1)))
        self.reckons(of_letters((), (1, 0), (1, 2)), first, ("set_row", (0, 1, ()), (0, 1, 1)))

    def test_circle(self):
        duel = of_letters((1,), (2,), (0,))
        for letter in range(3):
            self.reckons(duel, ("set_row", (0, letter, (POP,)), (1, 1, 1)), ("undo", (), (1, 1, 1)))
        # A circle of two, and one that uses it.
        self.reckons(
            of_letters((1,), (0,), (0,)), ("set_row", (0, 2, (POP,)), (0, 0, 1)),
            ("set_row", (0, 0, ((0, (1,)),)), (1, 1, 0)),
            ("undo", (), (1, 1, 0)), ("undo", (), (0, 0, 1)), ("set_row", (0, 1, ((0, (0,)),)), (1, 1, 1)),
        )

    def test_letter_that_uses_itself_only(self):
        self.reckons(
            of_letters((0, 0), (1,), ()), ("set_row", (0, 0, ()), (1, 0, 0)), ("set_row", (0, 1, ()), (0, 1, 0)),
            ("undo", (), (0, 1, 0)), ("undo", (), (1, 0, 0)),
        )

    def test_use_that_the_edit_adds(self):
        # The letter 0 comes to use 2; from then on an edit there takes away its families, too.
        self.reckons(
            of_letters((), (), ()), ("set_row", (0, 2, ((0, (2,)),)), (0, 0, 1)),
            ("set_row", (0, 0, ((0, (2,)),)), (1, 0, 0)),
            ("set_row", (0, 2, (POP,)), (1, 0, 1)), ("set_row", (0, 1, ((0, (0,)),)), (0, 1, 0)),
            ("set_row", (0, 2, ()), (1, 1, 1)),
        )

    def test_use_that_the_edit_takes_away(self):
        self.reckons(
            of_letters((1,), (2,), ()), ("set_row", (0, 1, (POP,)), (1, 1, 0)), ("set_row", (0, 2, ()), (0, 0, 1)),
            ("set_row", (0, 0, (POP,)), (1, 0, 0)), ("set_row", (0, 1, ()), (0, 1, 0)), ("undo", (), (0, 1, 0)),
            ("undo", (), (1, 0, 0)), ("undo", (), (0, 0, 1)), ("undo", (), (1, 1, 0)),
            ("set_row", (0, 2, ()), (1, 1, 1)),
        )

    def test_use_in_any_state_and_move(self):
        # The letter 0 uses 1 and 2 by the last move of its last state only.
        rows = {(2, 0): (POP, (1, ()), (2, (2, 1))), (0, 2): (POP,)}
        duel = Duel((0, 1, 0), (0, 1, 2), (0, 0, 0), 3, rows)
        self.reckons(
            duel, ("set_row", (1, 1, (POP,)), (1, 1, 0)), ("set_row", (1, 2, (POP,)), (1, 0, 1)),
            ("set_row", (0, 0, (POP,)), (1, 0, 0)), ("set_row", (2, 0, (POP,)), (1, 0, 0)),
            ("set_row", (0, 1, (POP,)), (0, 1, 0)), ("undo", (), (0, 1, 0)), ("undo", (), (1, 0, 0)),
            ("set_row", (0, 1, (POP,)), (1, 1, 0)),
        )

    def test_sides_ranks_and_ends(self):
        duel = of_letters((1,), (), (), states=2)
        self.reckons(
            duel, ("set_sides", ((0, 1),), (1, 1, 1)), ("set_ranks", ((1, 2),), (1, 1, 1)),
            ("set_ends", ((1, 1),), (0, 0, 0)),
            ("undo", (), (0, 0, 0)), ("undo", (), (1, 1, 1)), ("undo", (), (1, 1, 1)), ("again", (), (1, 1, 1)),
            ("again", (), (1, 1, 1)), ("again", (), (0, 0, 0)), ("set_ends", ((0, 0),), (0, 0, 0)),
        )

    def test_what_was_set_already(self):
        duel = of_letters((1,), (1,), (0, 1), states=2)
        rows = with_rows(duel, lambda spot, row: row).items()
        self.reckons(
            duel, *[("set_row", (state, letter, row), (0, 0, 0)) for (state, letter), row in rows],
            ("set_sides", ((0, 0),), (0, 0, 0)), ("set_ranks", ((0, 1),), (0, 0, 0)),
            ("set_ends", ((0, 1),), (0, 0, 0)),
            *[("undo", (), (0, 0, 0))] * 9, *[("again", (), (0, 0, 0))] * 9,
        )

    def test_moves_in_another_order(self):
        duel = of_letters((1,), (2, 2), ())
        self.reckons(
            duel, ("set_row", (0, 1, duel.row(0, 1)[::-1]), (1, 1, 0)),
            ("set_row", (0, 1, duel.row(0, 1)[::-1]), (0, 0, 0)),
            ("undo", (), (0, 0, 0)), ("undo", (), (1, 1, 0)),
        )

    def test_set_and_set_back_without_asking(self):
        # The families were taken away, and come back only by being reckoned.
        workshop = Workshop(of_letters((1,), (), ()))
        workshop.machine()
        workshop.set_row(0, 1, ())
        workshop.undo()
        self.assertEqual(workshop.reckoned(), (1, 1, 1))
        workshop.families(1)
        self.assertEqual(workshop.reckoned(), (2, 2, 1))
        workshop.again()
        workshop.set_row(0, 1, (POP,))
        workshop.winner(0, ())
        self.assertEqual(workshop.reckoned(), (3, 3, 1))

    def test_several_edits_without_asking(self):
        # Uses count as they are when each edit is made.
        workshop = Workshop(of_letters((1,), (), ()))
        workshop.machine()
        workshop.set_row(0, 0, (POP,))
        workshop.set_row(0, 1, ())
        workshop.machine()
        self.assertEqual(workshop.reckoned(), (2, 2, 1))
        workshop.set_row(0, 2, ((0, (1,)),))
        workshop.set_row(0, 1, (POP,))
        workshop.set_row(0, 2, ())
        workshop.set_row(0, 1, ())
        workshop.machine()
        self.assertEqual(workshop.reckoned(), (2, 3, 2))
        self.tells(workshop, workshop.duel())

    def test_letters_are_counted_each_for_itself(self):
        workshop = Workshop(of_letters((), (0,), ()))
        workshop.set_row(0, 0, ())
        workshop.machine()
        self.assertEqual(workshop.reckoned(), (1, 1, 1))
        for many in range(2, 6):
            workshop.set_row(0, 1, (POP,) if many % 2 else ())
            workshop.machine()
            self.assertEqual(workshop.reckoned(), (1, many, 1))
        workshop.set_row(0, 0, (POP,))
        workshop.machine()
        self.assertEqual(workshop.reckoned(), (2, 5, 1))


class TestApart(WorkshopCase):
    def test_dicts_that_are_told(self):
        workshop = Workshop(DUEL)
        right = [families(DUEL, side) for side in (0, 1)]
        for side in (0, 1):
            told = workshop.families(side)
            told[0, 0] = ()
            del told[1, 1]
            self.assertEqual(workshop.families(side), right[side])
            workshop.families(side).clear()
            self.assertEqual(workshop.families(side), right[side])
            self.assertEqual(workshop.families(1 - side), right[1 - side])
        self.tells(workshop, DUEL)
        self.assertEqual(workshop.reckoned(), (1, 1))
        workshop.set_row(0, 1, (POP,))
        self.tells(workshop, workshop.duel())
        for side in (0, 1):
            families(DUEL, side).clear()
            self.assertEqual(families(DUEL, side), right[side])

    def test_dict_that_was_told_stays_as_it_was(self):
        workshop = Workshop(DUEL)
        told = workshop.families(0)
        before = dict(told)
        workshop.set_ranks((2, 1))
        workshop.families(0)
        workshop.machine()
        self.assertEqual(told, before)

    def test_two_workshops_of_one_duel(self):
        one, other = Workshop(DUEL), Workshop(DUEL)
        one.machine()
        self.assertEqual(other.reckoned(), (0, 0))
        one.set_sides((1, 0))
        one.set_row(0, 0, ())
        self.nothing_left(other)
        self.tells(other, DUEL)
        self.assertEqual((one.reckoned(), other.reckoned()), ((1, 1), (1, 1)))
        other.set_ends((1, 0))
        self.tells(one, changed(DUEL, sides=(1, 0), rows={(0, 0): ()}))
        one.undo()
        one.undo()
        self.tells(other, changed(DUEL, ends=(1, 0)))
        self.tells(one, DUEL)
        # And one of the duel that the other one has come to.
        third = Workshop(other.duel())
        third.set_ends((0, 0))
        self.tells(other, changed(DUEL, ends=(1, 0)))
        self.nothing_left(Workshop(third.duel()))

    def test_what_was_handed_in(self):
        rows = {(0, 0): ((0, ()), (1, (0, 0))), (1, 0): ((0, ()),)}
        before = dict(rows)
        duel = Duel((0, 1), (1, 0), (0, 1), 1, rows)
        same = Duel((0, 1), (1, 0), (0, 1), 1, rows)
        workshop = Workshop(duel)
        moves = ((1, (0,)), (0, ()))
        workshop.set_row(0, 0, moves)
        workshop.set_sides((1, 1))
        workshop.set_ranks((0, 0))
        workshop.set_ends((1, 1))
        workshop.machine()
        self.assertEqual(rows, before)
        self.assertTrue(alike(duel, same))
        self.assertEqual(moves, ((1, (0,)), (0, ())))
        # The dict is not kept either.
        rows.clear()
        workshop.undo()
        self.assertTrue(alike(duel, same))
        self.tells(workshop, Duel((1, 1), (0, 0), (0, 1), 1, {(0, 0): moves, (1, 0): ((0, ()),)}))

    def test_duel_that_was_told_stays_as_it_was(self):
        workshop = Workshop(DUEL)
        workshop.set_row(0, 0, ())
        told = workshop.duel()
        workshop.set_ends((1, 1))
        workshop.set_row(0, 0, (POP,))
        workshop.undo()
        self.assertTrue(alike(told, changed(DUEL, rows={(0, 0): ()})))


if __name__ == "__main__":
    unittest.main()
