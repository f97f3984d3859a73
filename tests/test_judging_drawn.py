import unittest

from tests.drawing import Drawer, drawn, slow
from tests.second_judge import breaks_nothing, fault, first_open, shown_by
from tests.stacks import by_machine, with_rows, won_states
from tests.turning import STRANGE, at, near, places, put, reached, taken_out, turned
from towerduel.duels import Duel
from towerduel.judging import judge, judge_book, shown
from towerduel.papers import book

DUELS = slow() + drawn()
SOME = slow() + drawn(
    ((2, 2, 700), (1, 2, 150), (2, 1, 300), (3, 1, 500), (3, 2, 250), (2, 3, 150), (1, 3, 150), (3, 3, 30)), seed=31
)


def other_ranks(duel, papers, drawer):
    """The duel and the papers with other ranks in the same order, where there are such."""
    kinds = sorted(set(duel.ranks))
    others = drawer.one_of({1: ((0,), (1,), (2,)), 2: ((0, 1), (0, 2), (1, 2)), 3: ((0, 1, 2),)}[len(kinds)])
    rank = dict(zip(kinds, others))

    def with_ranks(answer):
        if answer[0] == "push":
            return (*answer[:3], tuple((state, rank[own], entry) for state, own, entry in answer[3]))
        return answer

    told = [
        tuple(
            (state, letter, tuple((p, rank[own]) for p, own in claim), tuple(with_ranks(answer) for answer in answers))
            for state, letter, claim, answers in paper
        )
        for paper in papers
    ]
    rows = with_rows(duel, lambda spot, row: row)
    return Duel(duel.sides, tuple(rank[own] for own in duel.ranks), duel.ends, duel.letters, rows), told


class TestDrawn(unittest.TestCase):
    def setUp(self):
        self.found = {"taken": 0, "first": 0, "later": 0, "circle": 0}

    def same(self, duel, side, told):
        """Checks that both judges tell the same, and what a paper that is taken shows."""
        verdict = judge(duel, side, told)
        self.assertEqual(verdict, fault(duel, side, told))
        self.assertIn(type(verdict), (int, type(None)))
        if verdict is None:
            self.found["taken"] += 1
            wins, showing = by_machine(duel, 3), shown_by(duel, side, told, 3)
            for stack in wins:
                self.assertLessEqual(set(showing[stack]), set(won_states(duel, side, wins[stack])))
            stack = list(wins)[-1]
            self.assertEqual(shown(duel, side, told, stack), showing[stack])
        elif breaks_nothing(duel, side, told):
            self.found["circle"] += 1
        else:
            self.found["later" if verdict else "first"] += 1

    def test_papers_turned_in_one_place(self):
        drawer = Drawer(32)
        for duel in DUELS:
            for side, told in enumerate(book(duel)):
                for _ in range(4):
                    self.same(duel, side, turned(drawer, told))
        self.assertGreater(min(self.found["taken"], self.found["first"], self.found["later"]), 1000)

    def test_papers_turned_in_two_places(self):
        drawer = Drawer(33)
        for duel in DUELS:
            for side, told in enumerate(book(duel)):
                for _ in range(3):
                    self.same(duel, side, turned(drawer, turned(drawer, told)))
        self.assertGreater(min(self.found["first"], self.found["later"]), 1000)

    def test_strange_values_in_each_place(self):
        drawer = Drawer(34)
        for duel in DUELS[::12]:
            for side, told in enumerate(book(duel)):
                for way in places(told):
                    strange = put(told, way, [drawer.one_of(STRANGE)])
                    self.same(duel, side, strange)
                    old = at(told, way)
                    if isinstance(old, int):
                        for wrong in (-1 - old, bool(old), float(old), str(old), (old,), None):
                            self.assertIsNotNone(judge(duel, side, put(told, way, [wrong])))
                    else:
                        for wrong in (None, -1, 0, [old], list(old), "other"):
                            self.assertIsNotNone(judge(duel, side, put(told, way, [wrong])))

    def test_papers_of_near_duels(self):
        drawer = Drawer(35)
        for duel in DUELS:
            other = near(duel, drawer)
            for side, told in enumerate(book(duel)):
                self.same(other, side, told)
                self.same(duel, 1 - side, told)
        self.assertGreater(min(self.found.values()), 100)

    def test_papers_with_other_ranks(self):
        drawer = Drawer(36)
        for duel in DUELS:
            other, papers = other_ranks(duel, book(duel), drawer)
            for side in (0, 1):
                self.same(other, side, papers[side])
                for told in (turned(drawer, papers[side]), papers[side][::-1]):
                    self.same(other, side, told)
        self.assertGreater(min(self.found.values()), 400)


class TestBooks(unittest.TestCase):
    def same(self, duel, papers):
        """Checks what the judge of books tells against the second judge and a search; tells which kind it is."""
        told = judge_book(duel, papers)
        for side in (0, 1):
            wrong = fault(duel, side, papers[side])
            if wrong is not None:
                self.assertEqual(told, ("paper", side, wrong))
                return "paper", side
        found = first_open(duel, papers, 3)
        if found is None and told is not None:
            _, stack, state = told
            self.assertGreater(len(stack), 3)
            self.assertEqual([state in shown(duel, side, papers[side], stack) for side in (0, 1)], [False, False])
        else:
            self.assertEqual(told, found)
        return (told[0], len(told[1])) if told else None

    def enough(self, found, least):
        for kind, many in least.items():
            self.assertGreater(found.count(kind), many, kind)

    def test_empty_papers(self):
        for duel in SOME:
            self.assertEqual(judge_book(duel, ((), ())), ("open", (0,), 0))
            one, other = book(duel)
            found = [self.same(duel, papers) for papers in ((one, ()), ((), other))]
            self.assertIn(("open", 1), found)

    def test_exchanged(self):
        found = [self.same(duel, book(duel)[::-1]) for duel in DUELS]
        self.enough(found, {("paper", 0): 1000, ("paper", 1): 100})

    def test_paper_of_a_near_duel(self):
        drawer = Drawer(37)
        found = []
        for duel in DUELS:
            one, other = book(duel)
            near_one, near_other = book(near(duel, drawer))
            for papers in ((near_one, other), (one, near_other), (near_one, near_other)):
                found.append(self.same(duel, papers))
        self.enough(found, {None: 1000, ("paper", 0): 1000, ("paper", 1): 1000, ("open", 1): 100, ("open", 2): 20})

    def test_some_entries_of_papers(self):
        drawer = Drawer(38)
        found = []
        for duel in DUELS:
            papers = []
            for told in book(duel):
                numbers = [number for number in range(len(told)) if drawer.number(10)]
                papers.append(taken_out(told, reached(told, numbers)))
            found.append(self.same(duel, tuple(papers)))
        self.enough(found, {None: 500, ("open", 1): 500, ("open", 2): 20, ("open", 3): 2})

    def test_turned(self):
        drawer = Drawer(39)
        found = []
        for duel in DUELS:
            one, other = book(duel)
            found.append(self.same(duel, (turned(drawer, one), turned(drawer, other))))
        self.enough(found, {None: 10, ("paper", 0): 1000, ("paper", 1): 200})


if __name__ == "__main__":
    unittest.main()
