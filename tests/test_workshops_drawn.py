import unittest
from itertools import product
from unittest.mock import patch

from tests.drawing import Drawer, drawn, slow
from tests.stacks import states_of, with_rows
from towerduel.duels import Duel, alike
from towerduel.errors import ShapeError, WorkshopError
from towerduel.families import families
from towerduel.machines import machine, winner
from towerduel.rules import Rules
from towerduel.workshops import Workshop

DUELS = slow() + drawn(
    ((2, 2, 250), (3, 1, 100), (3, 2, 150), (2, 3, 300), (1, 3, 200), (3, 3, 60), (2, 1, 40), (1, 2, 50)), seed=61
)
DEEDS = 14


def using(duel):
    """All pairs of a letter and one that it uses, by point 25."""
    letters = range(duel.letters)
    pairs = {
        (letter, used) for state in states_of(duel) for letter in letters
        for _, word in duel.row(state, letter) for used in word
    }
    # By way of each letter in turn.
    for way, one, other in product(letters, repeat=3):
        if (one, way) in pairs and (way, other) in pairs:
            pairs.add((one, other))
    return pairs


class Followed:
    """A workshop as rows of the duels of the past and of the future, with the letters that have families."""

    def __init__(self, duel):
        self.past = []
        self.duel = duel
        self.future = []
        self.having = set()
        self.counts = [0] * duel.letters

    def turn_to(self, duel, kind, letter):
        before, self.duel = self.duel, duel
        if kind in ("sides", "ranks") and getattr(before, kind) != getattr(duel, kind):
            self.having = set()
        if kind == "row" and not alike(before, duel):
            pairs = using(before) | using(duel)
            self.having -= {letter} | {one for one in range(duel.letters) if (one, letter) in pairs}

    def edit(self, duel, kind, letter=None):
        self.past.append((self.duel, kind, letter))
        self.future = []
        self.turn_to(duel, kind, letter)

    def undo(self):
        duel, kind, letter = self.past.pop()
        self.future.append((self.duel, kind, letter))
        self.turn_to(duel, kind, letter)

    def again(self):
        duel, kind, letter = self.future.pop()
        self.past.append((self.duel, kind, letter))
        self.turn_to(duel, kind, letter)

    def ask(self):
        for letter in range(self.duel.letters):
            self.counts[letter] += letter not in self.having
            self.having.add(letter)


def with_row(duel, spot, row):
    rows = with_rows(duel, lambda spot, row: row)
    rows[spot] = row
    return Duel(duel.sides, duel.ranks, duel.ends, duel.letters, rows)


def with_head(duel, kind, head):
    heads = {name: getattr(duel, name) for name in ("sides", "ranks", "ends")} | {kind: head}
    return Duel(*heads.values(), duel.letters, with_rows(duel, lambda spot, row: row))


class TestDrawn(unittest.TestCase):
    def setUp(self):
        self.done = {}

    def count(self, *what):
        self.done[what] = self.done.get(what, 0) + 1

    def set_row(self, drawer, workshop, followed):
        duel = followed.duel
        state, letter = spot = drawer.number(len(duel.sides)), drawer.number(duel.letters)
        old = duel.row(*spot)
        row = drawer.one_of((drawer.row(len(duel.sides), duel.letters), old, old[::-1], old[1:], ()))
        workshop.set_row(state, letter, row)
        followed.edit(with_row(duel, spot, row), "row", letter)
        self.count("row", "same" if row == old else "another")

    def set_head(self, drawer, workshop, followed):
        duel = followed.duel
        kind = drawer.one_of(("sides", "ranks", "ends", "ends"))
        old = getattr(duel, kind)
        head = drawer.one_of((old, drawer.numbers(len(old), 3 if kind == "ranks" else 2)))
        {"sides": workshop.set_sides, "ranks": workshop.set_ranks, "ends": workshop.set_ends}[kind](head)
        followed.edit(with_head(duel, kind, head), kind)
        self.count(kind, "same" if head == old else "another")

    def wrong_edit(self, drawer, workshop, followed):
        duel = followed.duel
        states, letters = len(duel.sides), duel.letters
        edit, part = drawer.one_of((
            (lambda: workshop.set_row(states, 0, ()), "moves"),
            (lambda: workshop.set_row(0, letters, ()), "moves"),
            (lambda: workshop.set_row(0, 0, ((0, ()), (0, ()))), "moves"),
            (lambda: workshop.set_row(0, letters - 1, ((states, ()),)), "moves"),
            (lambda: workshop.set_row(states - 1, 0, ((0, (0, letters)),)), "moves"),
            (lambda: workshop.set_sides((0,) * (states + 1)), "states"),
            (lambda: workshop.set_ranks((3,) * states), "states"),
            (lambda: workshop.set_ends(()), "states"),
        ))
        with self.assertRaises(ShapeError) as caught:
            edit()
        self.assertEqual(caught.exception.part, part)
        self.count("wrong", part)

    def through_time(self, drawer, workshop, followed):
        back = drawer.number(5) < 3
        method, word = (workshop.undo, "nothing to undo") if back else (workshop.again, "nothing to make again")
        if followed.past if back else followed.future:
            method()
            followed.undo() if back else followed.again()
            self.count(word, "done")
            return
        with self.assertRaises(WorkshopError) as caught:
            method()
        self.assertEqual(caught.exception.why, word)
        self.count(word, "refused")

    def ask(self, drawer, workshop, followed):
        """Asks for one thing, and checks it against the duel made anew of the same parts."""
        duel = followed.duel
        fresh = Duel(duel.sides, duel.ranks, duel.ends, duel.letters, with_rows(duel, lambda spot, row: row))
        kind = drawer.number(3)
        if kind == 0:
            self.ask_for_families(drawer, workshop, fresh)
        elif kind == 1:
            self.assertEqual(workshop.machine(), machine(fresh))
        else:
            state, stack = drawer.number(len(duel.sides)), drawer.numbers(drawer.number(5), duel.letters)
            self.assertEqual(workshop.winner(state, stack), winner(fresh, state, stack))
        self.count("asked", len(followed.having) == duel.letters)
        followed.ask()

    def ask_for_families(self, drawer, workshop, fresh):
        """Asks for the families of both sides; the dicts that are told are changed, the more the better."""
        for side in (0, 1):
            told = workshop.families(side)
            self.assertEqual(told, families(fresh, side))
            if drawer.number(2):
                told.clear()
            for spot in told:
                told[spot] = (((0, 0),),)
            told[3, 3] = None

    def test_deeds(self):
        drawer = Drawer(62)
        deeds = (self.set_row, self.set_row, self.set_head, self.through_time, self.through_time, self.ask, self.ask,
                 self.ask, self.wrong_edit)
        for duel in DUELS:
            # Two workshops of one duel, each with its own deeds.
            both = [(Workshop(duel), Followed(duel)) for _ in range(2)]
            before = with_rows(duel, lambda spot, row: row)
            for _ in range(DEEDS):
                workshop, followed = drawer.one_of(both)
                drawer.one_of(deeds)(drawer, workshop, followed)
                for workshop, followed in both:
                    self.assertTrue(alike(workshop.duel(), followed.duel))
                    self.assertEqual(workshop.reckoned(), tuple(followed.counts))
            for workshop, followed in both:
                self.ask_for_everything(workshop, followed)
            self.assertEqual(with_rows(duel, lambda spot, row: row), before)
        self.assertEqual(len(self.done), 8 + 2 + 4 + 2)
        self.assertGreater(min(self.done.values()), 100)

    def ask_for_everything(self, workshop, followed):
        duel = followed.duel
        followed.ask()
        for side in (0, 1):
            self.assertEqual(workshop.families(side), families(duel, side))
        self.assertEqual(workshop.machine(), machine(duel))
        self.assertEqual(workshop.reckoned(), tuple(followed.counts))

    def test_one_edit_behind_reckoning(self):
        # What is kept is as good as what is made anew, whichever letters lose their families.
        drawer = Drawer(63)
        found = {}
        for duel in DUELS:
            for _ in range(4):
                workshop, followed = Workshop(duel), Followed(duel)
                workshop.winner(0, ())
                followed.ask()
                self.set_row(drawer, workshop, followed)
                lost = duel.letters, duel.letters - len(followed.having)
                found[lost] = found.get(lost, 0) + 1
                self.ask_for_everything(workshop, followed)
                workshop.undo()
                followed.undo()
                self.ask_for_everything(workshop, followed)
        for letters in (1, 2, 3):
            for lost in range(letters + 1):
                self.assertGreater(found[letters, lost], 50)

    def test_families_are_made_only_where_that_is_counted(self):
        drawer = Drawer(64)
        add_row = Rules.add_row
        for duel in DUELS[::4]:
            workshop, followed = Workshop(duel), Followed(duel)
            made = []

            def noted(rules, spot, row, ranks):
                made.append(spot)
                add_row(rules, spot, row, ranks)

            # Whatever is worked out, a row is taken in for each state, once for each side.
            with patch.object(Rules, "add_row", noted):
                for _ in range(12):
                    drawer.one_of((self.set_row, self.set_row, self.set_head))(drawer, workshop, followed)
                    for _ in range(drawer.number(3)):
                        workshop.winner(0, ())
                        workshop.families(1)
                        workshop.machine()
            for state, letter in with_rows(duel, lambda spot, row: row):
                self.assertEqual(made.count((state, letter)), 2 * workshop.reckoned()[letter])

    def test_kept_families_are_not_made_again(self):
        # It is asked so often that it would take very long otherwise.
        for duel in DUELS[:6]:
            workshop = Workshop(duel)
            machine_told, told = workshop.machine(), workshop.families(1)
            for many in range(500):
                workshop.set_ends((many % 2,) * len(duel.sides))
                self.assertEqual(workshop.families(1), told)
                workshop.winner(0, (0,) * (many % 5))
            workshop.set_ends(duel.ends)
            self.assertEqual(workshop.machine(), machine_told)
            self.assertEqual(workshop.reckoned(), (1,) * duel.letters)


if __name__ == "__main__":
    unittest.main()
