"""The whole program: the names of the interface, each in its file, and that nothing that is handed in is changed."""

import ast
import copy
import unittest
from pathlib import Path

import towerduel
from tests.drawing import Drawer, drawn, slow
from tests.stacks import with_rows
from towerduel.duels import Duel, after, alike
from towerduel.errors import DuelError
from towerduel.families import families, holds, lowered
from towerduel.judging import judge, judge_book, shown
from towerduel.machines import count_wins, first_win, good_moves, machine, part, winner
from towerduel.notation import print_duel, read_duel
from towerduel.papers import book, paper
from towerduel.playing import Match, Player, read_journal
from towerduel.workshops import Workshop

FOLDER = Path(towerduel.__file__).parent
FUNCTIONS = {
    "duels": {"alike": ("one", "other"), "after": ("stack", "move")},
    "families": {
        "lowered": ("claim", "rank"), "families": ("duel", "side"),
        "holds": ("duel", "side", "state", "letter", "claim"),
    },
    "machines": {
        "machine": ("duel",), "winner": ("duel", "state", "stack"), "first_win": ("duel", "side", "state"),
        "count_wins": ("duel", "state", "height"), "part": ("one", "other"), "good_moves": ("duel", "state", "stack"),
    },
    "papers": {"paper": ("duel", "side"), "book": ("duel",)},
    "judging": {
        "judge": ("duel", "side", "paper"), "shown": ("duel", "side", "paper", "stack"),
        "judge_book": ("duel", "papers"),
    },
    "playing": {"read_journal": ("duel", "text")},
    "notation": {"print_duel": ("duel",), "read_duel": ("text",)},
}
CLASSES = {
    "errors": {
        "DuelError": {}, "ShapeError": {"__init__": ("part",)}, "NotationError": {"__init__": ("line",)},
        "MatchError": {"__init__": ("why",)}, "WorkshopError": {"__init__": ("why",)},
    },
    "duels": {"Duel": {"__init__": ("sides", "ranks", "ends", "letters", "rows"), "row": ("state", "letter")}},
    "playing": {
        "Match": {
            "__init__": ("duel", "state", "stack"), "position": (), "turn": (), "won": (), "moves": (),
            "move": ("number",),
            "take_back": (), "journal": (),
        },
        "Player": {
            "__init__": ("duel", "side", "paper", "state", "stack"), "move": (), "hear": ("number",), "position": (),
        },
    },
    "workshops": {
        "Workshop": {
            "__init__": ("duel",), "duel": (), "set_row": ("state", "letter", "moves"), "set_sides": ("sides",),
            "set_ranks": ("ranks",), "set_ends": ("ends",), "undo": (), "again": (), "families": ("side",),
            "machine": (),
            "winner": ("state", "stack"), "reckoned": (),
        },
    },
}


def defined(body, kind):
    return {told.name: told for told in body if isinstance(told, kind)}


def parameters(function):
    """The names of the parameters of a function that has plain ones only."""
    told = function.args
    assert not (told.posonlyargs or told.vararg or told.kwonlyargs or told.kwarg or told.defaults)
    return tuple(parameter.arg for parameter in told.args)


class TestNames(unittest.TestCase):
    def module(self, name):
        return ast.parse((FOLDER / f"{name}.py").read_text()).body

    def test_functions_in_their_files(self):
        for name, functions in FUNCTIONS.items():
            here = defined(self.module(name), ast.FunctionDef)
            for function, names in functions.items():
                self.assertEqual(parameters(here[function]), names)

    def test_classes_and_methods_in_their_files(self):
        for name, classes in CLASSES.items():
            here = defined(self.module(name), ast.ClassDef)
            for told, methods in classes.items():
                bodies = defined(here[told].body, ast.FunctionDef)
                for method, names in methods.items():
                    self.assertEqual(parameters(bodies[method]), ("self", *names))

    def test_package_holds_nothing_but_its_files(self):
        for path in FOLDER.iterdir():
            if path.name != "__pycache__":
                self.assertEqual(path.suffix, ".py")

    def test_no_clock_no_random_numbers_no_files(self):
        # Each file imports from the package alone, and calls nothing that reads or writes.
        for path in FOLDER.glob("*.py"):
            for node in ast.walk(ast.parse(path.read_text())):
                self.assertNotIsInstance(node, ast.Import)
                if isinstance(node, ast.ImportFrom):
                    self.assertEqual(node.module.split(".")[0], "towerduel")
                if isinstance(node, ast.Name):
                    self.assertNotIn(node.id, ("open", "input", "print", "exec", "eval", "hash", "id"))


class TestNothingIsChanged(unittest.TestCase):
    def test_arguments(self):
        drawer = Drawer(71)
        for duel in slow() + drawn(((2, 2, 60), (3, 1, 40), (3, 2, 40), (2, 3, 30), (1, 3, 20)), seed=72):
            rows = with_rows(duel, lambda spot, row: row)
            papers = book(duel)
            stack = drawer.numbers(3, duel.letters)
            told = [duel, rows, papers, stack]
            before = copy.deepcopy(told[1:])
            again = Duel(duel.sides, duel.ranks, duel.ends, duel.letters, rows)
            for deed in self.deeds(duel, again, rows, papers, stack):
                first, second = self.outcome(deed), self.outcome(deed)
                # What is asked twice is told twice, whatever was asked or changed in between.
                self.assertEqual(first, second)
                if isinstance(first, dict):
                    first.clear()
                    self.assertEqual(self.outcome(deed), second)
                self.assertEqual(told[1:], before)
                self.assertTrue(alike(duel, again))

    def outcome(self, deed):
        try:
            return deed()
        except DuelError as error:
            return type(error), vars(error)

    def deeds(self, duel, again, rows, papers, stack):
        """Calls of all functions, and of all methods of what they make."""
        moves = duel.row(0, 0)
        journal = Match(duel, 0, stack).journal() + "move 0\n"
        text = print_duel(duel)
        return [
            lambda: alike(duel, Duel(duel.sides, duel.ranks, duel.ends, duel.letters, rows)),
            lambda: [after(stack, move) for move in moves],
            lambda: [lowered(claim, 0) for _, _, claim, _ in papers[0]],
            lambda: families(duel, 0), lambda: families(duel, 1),
            lambda: [holds(duel, 0, state, letter, claim) for state, letter, claim, _ in papers[0][:2]],
            lambda: machine(duel), lambda: winner(duel, 0, stack), lambda: first_win(duel, 0, 0),
            lambda: count_wins(duel, 0, 5), lambda: part(duel, again), lambda: good_moves(duel, 0, stack),
            lambda: paper(duel, 0), lambda: book(duel), lambda: [judge(duel, side, papers[side]) for side in (0, 1)],
            lambda: shown(duel, 0, papers[0], stack), lambda: judge_book(duel, papers),
            lambda: self.match(duel, stack), lambda: read_journal(duel, journal).moves(),
            lambda: self.player(duel, 0, papers, stack), lambda: self.player(duel, 1, papers, stack),
            lambda: print_duel(duel), lambda: print_duel(read_duel(text)), lambda: read_duel(text[1:]),
            lambda: self.workshop(duel, moves, stack), lambda: self.workshop(again, moves, stack),
        ]

    def match(self, duel, stack):
        match = Match(duel, 0, stack)
        match.move(0)
        told = match.position(), match.turn(), match.won(), match.moves(), match.journal()
        match.take_back()
        return told, match.position()

    def player(self, duel, side, papers, stack):
        player = Player(duel, side, papers[side], 0, stack)
        told = player.move()
        player.hear(told)
        return told, player.position()

    def workshop(self, duel, moves, stack):
        workshop = Workshop(duel)
        workshop.families(0).clear()
        workshop.set_row(0, 0, moves[1:])
        workshop.set_sides(duel.ends)
        workshop.set_ranks(duel.sides)
        workshop.set_ends(duel.sides)
        told = workshop.families(1), workshop.machine(), workshop.winner(0, stack), workshop.reckoned()
        workshop.undo()
        workshop.again()
        return told, print_duel(workshop.duel())


if __name__ == "__main__":
    unittest.main()
