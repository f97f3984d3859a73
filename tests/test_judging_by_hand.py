import unittest

from towerduel.duels import Duel
from towerduel.judging import judge, judge_book, shown

# A duel, and a paper of side 0 for it that has answers of all kinds.
DUEL = Duel(
    (0, 1), (0, 2), (0, 1), 3,
    {
        (0, 0): ((0, ()), (1, (1,)), (0, (1, 2))),
        (0, 1): ((1, ()),),
        (1, 0): ((0, (1, 2)),),
        (1, 1): ((0, ()), (1, (2,))),
        (1, 2): ((1, ()),),
    },
)
PAPER = (
    (0, 0, ((0, 0),), (("pop", 0),)),
    (1, 1, ((0, 0), (1, 2)), (("pop", 0), ("change", 1, 2))),
    (1, 2, ((1, 2),), (("pop", 0),)),
    (0, 1, ((1, 2),), (("pop", 0),)),
    (1, 0, ((1, 0),), (("push", 0, 3, ((1, 0, 2),)),)),
    (0, 0, ((0, 0), (1, 2)), (("change", 1, 1),)),
    (0, 0, ((0, 2), (1, 0)), (("push", 2, 3, ((1, 0, 2),)),)),
)


def with_entry(number, *entry):
    """The paper with an entry, or more, in place of one."""
    return (*PAPER[:number], *entry, *PAPER[number + 1:])


class TestForm(unittest.TestCase):
    def at_fault(self, number, *entries):
        """Checks that each of these in place of the entry is at fault."""
        for entry in entries:
            with self.subTest(number=number, entry=entry):
                self.assertEqual(judge(DUEL, 0, with_entry(number, entry)), number)

    def test_taken(self):
        self.assertIsNone(judge(DUEL, 0, PAPER))

    def test_empty_paper(self):
        self.assertIsNone(judge(DUEL, 0, ()))
        self.assertIsNone(judge(DUEL, 1, ()))

    def test_entry_that_is_none(self):
        for number in (0, 6):
            entry = PAPER[number]
            self.at_fault(
                number, None, 0, -1, True, "", "text", b"text", 1.5, object(), [], {}, set(), (),
                list(entry), entry[:3], entry[:1], (*entry, 0), (*entry, ()), (entry,), entry[3],
            )

    def test_state_and_letter(self):
        for wrong in (2, 3, -1, -2, True, False, None, "0", 0.0, (), (0,), [], {}, 10**30):
            self.at_fault(0, (wrong, *PAPER[0][1:]))
            self.at_fault(6, (wrong, *PAPER[6][1:]))
            if wrong != 2:
                self.at_fault(0, (0, wrong, *PAPER[0][2:]))
                self.at_fault(6, (0, wrong, *PAPER[6][2:]))
        self.at_fault(6, (1, *PAPER[6][1:]), (0, 1, *PAPER[6][2:]), (0, 2, *PAPER[6][2:]))

    def test_claim(self):
        wrong = (
            None, 0, "", (0, 0), ((0,),), ((0, 0, 0),), ((0, 0), 0), ((0, 0), ()), [], [(0, 0)], ([0, 0],),
            {}, {(0, 0): 0}, ("00",),
            # No such state, no such rank, and a rank that no state has.
            ((0, 0), (2, 0)), ((-1, 0), (0, 0)), ((0, 0), (0, 3)), ((0, -1), (0, 0)), ((0, 0), (0, 1)),
            # No whole numbers.
            ((False, 0),), ((0, False),), ((0, 0.0),), ((0.0, 0),), ((0, "0"),), ((0, None),), ((0, 0), (True, 0)),
            (([], 0),), ((0, []),), ((0, {}),), ((0, ()),),
            # Not in strictly ascending order.
            ((0, 0), (0, 0)), ((0, 2), (0, 0)), ((1, 0), (0, 0)), ((0, 0), (1, 2), (1, 0)), ((0, 0), (1, 0), (1, 0)),
        )
        self.at_fault(0, *[(0, 0, claim, (("pop", 0),)) for claim in wrong])

    def test_rank_that_its_state_has_not(self):
        # It is enough that some state has it.
        self.assertIsNone(judge(DUEL, 0, with_entry(0, (0, 0, ((0, 0), (0, 2)), (("pop", 0),)))))

    def test_answers(self):
        for number in (0, 1, 4):
            answers = PAPER[number][3]
            for wrong in (None, 0, "", "pop", [], list(answers), {}, set(), answers[0], True):
                self.at_fault(number, (*PAPER[number][:3], wrong))

    def test_double(self):
        for number, entry in enumerate(PAPER):
            self.assertEqual(judge(DUEL, 0, (*PAPER, entry)), 7)
            doubled = with_entry(number, entry, entry)
            if number >= 3:
                self.assertEqual(judge(DUEL, 0, doubled), number + 1)
        # It is a double whatever its answers are.
        self.assertEqual(judge(DUEL, 0, (*PAPER, (0, 0, ((0, 0), (1, 2)), (("pop", 0),)))), 7)
        self.assertEqual(judge(DUEL, 0, (*PAPER, (0, 0, ((0, 0), (0, 2)), (("pop", 0),)))), None)

    def test_what_tells_a_double(self):
        paper = with_entry(1, (*PAPER[1][:3], (("pop", 0), ("change", 1, 7))))
        self.assertEqual(judge(DUEL, 0, (*paper, PAPER[2])), 1)
        paper = with_entry(4, (*PAPER[4][:3], (("push", 0, 3, ((1, 0, 7),)),)))
        self.assertEqual(judge(DUEL, 0, (*paper, PAPER[2])), 4)
        paper = with_entry(4, (*PAPER[4][:3], (("push", 0, 7, ((1, 0, 2),)),)))
        self.assertEqual(judge(DUEL, 0, (*paper, PAPER[3])), 4)

    def test_no_double_of_what_is_not_in_form(self):
        # Entry 2 is not in form, so 7 is no double of it, and 1 may tell it.
        paper = with_entry(1, (*PAPER[1][:3], (("pop", 0), ("change", 1, 7))))
        paper = (*paper[:2], (*PAPER[2][:3], [("pop", 0)]), *paper[3:], PAPER[2])
        self.assertEqual(judge(DUEL, 0, paper), 2)
        # Entry 2 has a wrong answer, but it is in form: 7 is a double.
        paper = (*paper[:2], (*PAPER[2][:3], ("pop",)), *paper[3:])
        self.assertEqual(judge(DUEL, 0, paper), 1)

    def test_what_tells_an_entry_that_is_not_in_form(self):
        for wrong in (None, PAPER[2][:3], list(PAPER[2]), (*PAPER[2][:3], [])):
            self.assertEqual(judge(DUEL, 0, with_entry(2, wrong)), 1)
        for wrong in (None, PAPER[3][:3], list(PAPER[3]), (*PAPER[3][:3], None)):
            self.assertEqual(judge(DUEL, 0, with_entry(3, wrong)), 3)
            self.assertEqual(judge(DUEL, 0, (PAPER[4], *with_entry(3, wrong)[1:])), 0)

    def test_what_tells_an_entry_with_wrong_answers_is_not_at_fault(self):
        for wrong in ((), (None,), (("pop", 1),), (("change", 0, 0),), ((),), (("pop", 0), ("pop", 0))):
            self.assertEqual(judge(DUEL, 0, with_entry(2, (*PAPER[2][:3], wrong))), 2)


class TestAnswers(unittest.TestCase):
    def at_fault(self, number, *told):
        """Checks that the entry is at fault with each of these answers, whatever else is there."""
        for answers in told:
            with self.subTest(number=number, answers=answers):
                self.assertEqual(judge(DUEL, 0, with_entry(number, (*PAPER[number][:3], answers))), number)

    def test_how_many(self):
        self.at_fault(0, (), (("pop", 0), ("pop", 0)), (("pop", 0), ("change", 1, 1)))
        self.at_fault(1, (), (("pop", 0),), (("change", 1, 2),), (("pop", 0), ("change", 1, 2), ("pop", 0)))
        self.at_fault(1, (("pop", 0), ("pop", 0)), (("change", 1, 2), ("pop", 0)))
        self.at_fault(2, (), (("pop", 0), ("pop", 0)))

    def test_empty_rows(self):
        paper = ((0, 2, (), ()),)
        self.assertEqual(judge(DUEL, 0, paper), 0)
        self.assertIsNone(judge(DUEL, 1, paper))
        for answers in ((("pop", 0),), (None,), ((),)):
            for side in (0, 1):
                self.assertEqual(judge(DUEL, side, ((0, 2, ((0, 0),), answers),)), 0)

    def test_no_answer_at_all(self):
        wrong = (None, 0, "pop", [], ["pop", 0], (), ("pop",), (0, "pop"), {}, ("pop", 0, 0), ("pop", (0,)))
        self.at_fault(0, *[(answer,) for answer in wrong])
        self.at_fault(1, *[(("pop", 0), answer) for answer in wrong])

    def test_move(self):
        wrong = (-1, 1, 2, 3, 7, None, False, True, 0.0, "0", (0,), [], 10**30)
        self.at_fault(0, *[(("pop", move),) for move in wrong])
        self.at_fault(2, *[(("pop", move),) for move in wrong])

    def test_form_of_another_move(self):
        self.at_fault(0, (("change", 0, 1),), (("push", 0, 3, ((1, 0, 2),)),), (("change", 0),), (("Pop", 0),))
        self.at_fault(0, ((b"pop", 0),), ((None, 0),), ((0, 0),), (([], 0),), (("", 0),), ((("pop",), 0),))
        self.at_fault(5, (("pop", 1),), (("push", 1, 1, ()),), (("change", 1),), (("change", 1, 1, ()),))
        self.at_fault(5, (("pop", 1, 1),), (("change", 1, 1, 1),), (("change", 1, (1,)),))
        self.at_fault(6, (("pop", 2),), (("change", 2, 3),), (("push", 2, 3),), (("push", 2, ((1, 0, 2),), 3),))
        self.at_fault(6, (("push", 2, 3, ((1, 0, 2),), 0),), (("change", 2, 3, ((1, 0, 2),)),))
        # The right form for another move of the row.
        self.at_fault(5, (("change", 0, 1),), (("change", 2, 1),))
        self.at_fault(6, (("push", 0, 3, ((1, 0, 2),)),), (("push", 1, 3, ((1, 0, 2),)),))

    def test_entry_that_there_is_not(self):
        for wrong in (7, 8, -1, -6, None, True, 1.0, "1", (1,), [1], 10**30):
            self.at_fault(5, (("change", 1, wrong),))
            self.at_fault(1, (("pop", 0), ("change", 1, wrong)))
            self.at_fault(6, (("push", 2, wrong, ((1, 0, 2),)),), (("push", 2, 3, ((1, 0, wrong),)),))
            self.at_fault(4, (("push", 0, wrong, ((1, 0, 2),)),), (("push", 0, 3, ((1, 0, wrong),)),))


class TestClaims(unittest.TestCase):
    def test_pop(self):
        for claim in ((), ((0, 2),), ((1, 0), (1, 2))):
            self.assertEqual(judge(DUEL, 0, with_entry(0, (0, 0, claim, (("pop", 0),)))), 0)
        for claim in ((), ((0, 0),), ((1, 0),)):
            self.assertEqual(judge(DUEL, 0, (*PAPER, (1, 2, claim, (("pop", 0),)))), 7)

    def test_change_to_another_state_or_letter(self):
        for entry in (0, 2, 3, 4, 5, 6):
            self.assertEqual(judge(DUEL, 0, with_entry(5, (*PAPER[5][:3], (("change", 1, entry),)))), 5)

    def test_change_to_a_greater_claim(self):
        for claim in ((), ((0, 0),), ((1, 2),), ((0, 0), (1, 0)), ((0, 2), (1, 2))):
            self.assertEqual(judge(DUEL, 0, (*PAPER, (0, 0, claim, (("change", 1, 1),)))), 7)
        self.assertIsNone(judge(DUEL, 0, (*PAPER, (0, 0, ((0, 0), (1, 0), (1, 2)), (("change", 1, 1),)))))

    def test_change_lowers(self):
        rows = {(0, 0): ((1, (1,)),), (1, 1): ((2, ()),)}
        for rank in (0, 1, 2):
            duel = Duel((0, 0, 0), (0, rank, 2), (0, 0, 0), 2, rows)
            for own in sorted({0, rank, 2}):
                paper = ((0, 0, ((2, own),), (("change", 0, 1),)), (1, 1, ((2, 2),), (("pop", 0),)))
                self.assertEqual(judge(duel, 0, paper), None if own == rank else 0)

    def test_push_of_another_state_or_letter(self):
        for entry in (0, 1, 2, 4, 5, 6):
            for returns in (((1, 0, 2),), ((0, 0, 2),), ((0, 0, 0), (1, 0, 2))):
                self.assertEqual(judge(DUEL, 0, with_entry(6, (*PAPER[6][:3], (("push", 2, entry, returns),)))), 6)

    def test_returns(self):
        wrong = (
            None, 0, "", [], [(1, 0, 2)], {}, ((1, 0),), ((1, 0, 2, 0),), ([1, 0, 2],), (1, 0, 2), (None,), ((),),
            # Not those of the claim of entry 3, lowered by rank 0.
            (), ((1, 2, 2),), ((0, 0, 2),), ((1, 0, 2), (1, 2, 2)), ((1, 0, 2), (1, 0, 2)), ((0, 0, 2), (1, 0, 2)),
            ((1, 1, 2),), ((-1, 0, 2),), ((1, -1, 2),),
            # No whole numbers.
            ((True, 0, 2),), ((1, False, 2),), ((1.0, 0, 2),), ((1, 0.0, 2),), (("1", 0, 2),), ((1, None, 2),),
            (([], 0, 2),), ((1, [], 2),),
            # Entries of another state or letter.
            ((1, 0, 0),), ((1, 0, 1),), ((1, 0, 3),), ((1, 0, 4),),
        )
        for number, move in ((4, 0), (6, 2)):
            for returns in wrong:
                entry = (*PAPER[number][:3], (("push", move, 3, returns),))
                with self.subTest(entry=entry):
                    self.assertEqual(judge(DUEL, 0, with_entry(number, entry)), number)

    def test_return_to_a_greater_claim(self):
        for claim in ((), ((1, 2),), ((0, 0), (0, 2), (1, 2))):
            self.assertEqual(judge(DUEL, 0, with_entry(6, (0, 0, claim, PAPER[6][3]))), 6)

    def test_returns_in_order(self):
        # Side 1 chooses above whether the letter 2 is met in state 0 or 1.
        rows = {(0, 0): ((2, (1, 2)),), (2, 1): ((1, ()), (0, ())), (0, 2): ((0, ()),), (1, 2): ((0, ()),)}
        duel = Duel((0, 0, 1), (1, 1, 2), (0, 0, 0), 3, rows)
        rest = ((2, 1, ((0, 1), (1, 1)), (("pop", 0), ("pop", 1))),)
        rest += tuple((state, 2, ((0, 1),), (("pop", 0),)) for state in (0, 1))
        both = ((0, 1, 2), (1, 1, 3))
        for returns in (both, both[::-1], both[:1], both[1:], ((0, 1, 3), (1, 1, 2)), (*both, both[1])):
            paper = ((0, 0, ((0, 1),), (("push", 0, 1, returns),)), *rest)
            self.assertEqual(judge(duel, 0, paper), None if returns == both else 0)

    def test_greater_claims_than_needed(self):
        claim = ((0, 0), (0, 2), (1, 0), (1, 2))
        for number, entry in enumerate(PAPER[:2]):
            paper = with_entry(number, (*entry[:2], claim, entry[3]))
            self.assertEqual(judge(DUEL, 0, paper), None if number == 0 else 5)

    def test_two_faults(self):
        for first in range(7):
            for second in range(first + 1, 7):
                paper = (*PAPER[:first], (*PAPER[first][:3], ()), *PAPER[first + 1:])
                paper = (*paper[:second], (*paper[second][:3], ()), *paper[second + 1:])
                self.assertEqual(judge(DUEL, 0, paper), first)


class TestCircles(unittest.TestCase):
    def check(self, duel, paper, of_0, of_1):
        self.assertEqual(judge(duel, 0, paper), of_0)
        self.assertEqual(judge(duel, 1, paper), of_1)

    def test_one_step(self):
        for rank in (0, 1, 2):
            for side in (0, 1):
                for word, answer in (((0,), ("change", 0, 0)), ((0, 0), ("push", 0, 0, ()))):
                    duel = Duel((side,), (rank,), (0,), 1, {(0, 0): ((0, word),)})
                    told = (None, 0) if rank % 2 == 0 else (0, None)
                    self.check(duel, ((0, 0, (), (answer,)),), *told)

    def test_two_steps(self):
        rows = {(0, 0): ((1, (0,)),), (1, 0): ((0, (0,)),)}
        for ranks in [(one, other) for one in range(3) for other in range(3)]:
            duel = Duel((0, 1), ranks, (0, 0), 1, rows)
            paper = ((0, 0, (), (("change", 0, 1),)), (1, 0, (), (("change", 0, 0),)))
            self.check(duel, paper, *((None, 0) if min(ranks) % 2 == 0 else (0, None)))

    def test_what_leads_to_a_circle_is_not_on_it(self):
        rows = {(0, 0): ((0, (1,)),), (0, 1): ((1, (1,)),), (1, 1): ((0, (1,)),)}
        paper = ((0, 0, (), (("change", 0, 1),)), (0, 1, (), (("change", 0, 2),)), (1, 1, (), (("change", 0, 1),)))
        self.check(Duel((0, 0), (2, 1), (0, 0), 2, rows), paper, 1, None)
        self.check(Duel((0, 0), (0, 1), (0, 0), 2, rows), paper, None, 1)

    def test_return(self):
        rows = {(0, 0): ((1, (1, 0)),), (1, 1): ((0, ()),)}
        paper = ((0, 0, (), (("push", 0, 1, ((0, 1, 0),)),)), (1, 1, ((0, 2),), (("pop", 0),)))
        # The step to the return has rank 1, that of the state above.
        self.check(Duel((0, 0), (2, 1), (0, 0), 2, rows), paper, 0, None)
        paper = ((0, 0, (), (("push", 0, 1, ((0, 0, 0),)),)), (1, 1, ((0, 1),), (("pop", 0),)))
        self.check(Duel((0, 0), (1, 0), (0, 0), 2, rows), paper, None, 0)

    def test_entry_with_two_ways(self):
        # From state 0 the other side goes to state 1 or 2, and comes back; the rank of state 0 is 2.
        rows = {(0, 0): ((1, (0,)), (2, (0,))), (1, 0): ((0, (0,)),), (2, 0): ((0, (0,)),)}
        orders = ((0, 1, 2), (0, 2, 1), (1, 0, 2), (1, 2, 0), (2, 0, 1), (2, 1, 0))
        for order in orders:
            back = {state: number for number, state in enumerate(order)}
            answers = {
                0: (("change", 0, back[1]), ("change", 1, back[2])),
                1: (("change", 0, back[0]),),
                2: (("change", 0, back[0]),),
            }
            paper = tuple((state, 0, (), answers[state]) for state in order)
            # Each circle through state 1 has rank 0 in it, but there is one that does without.
            duel = Duel((1, 0, 0), (2, 0, 1), (0, 0, 0), 1, rows)
            self.assertEqual(judge(duel, 0, paper), min(back[0], back[2]))
            # A circle through state 1 may go by state 2, too, and has its rank then.
            duel = Duel((0, 0, 0), (2, 1, 0), (0, 0, 0), 1, rows)
            self.assertEqual(judge(duel, 1, paper), 0)
            duel = Duel((0, 0, 0), (2, 1, 1), (0, 0, 0), 1, rows)
            self.assertIsNone(judge(duel, 1, paper))
            duel = Duel((1, 0, 0), (1, 0, 0), (0, 0, 0), 1, rows)
            self.assertIsNone(judge(duel, 0, paper))

    def test_other_faults_come_first(self):
        duel = Duel((0, 0), (1, 1), (0, 0), 2, {(0, 0): ((0, (0,)),), (1, 1): ((0, ()),)})
        paper = ((0, 0, (), (("change", 0, 0),)), (1, 1, (), (("pop", 0),)))
        self.assertEqual(judge(duel, 0, paper), 1)
        self.assertEqual(judge(duel, 0, (paper[0], (1, 1, ((0, 1),), (("pop", 0),)))), 0)

    def test_long_circle(self):
        # Lowered by rank 0, each of these claims is the same, so that any may follow any.
        rows = {(0, letter): ((0, ((letter + 1) % 3,)),) for letter in range(3)}
        duel = Duel((0, 1, 1), (0, 1, 2), (0, 0, 0), 3, rows)
        others = [(state, rank) for state in range(3) for rank in (1, 2)]
        claims = []
        for mask in range(64):
            more = [pair for place, pair in enumerate(others) if mask >> place & 1]
            claims.append(tuple(sorted([(0, 0), (1, 0), (2, 0), *more])))
        told = [(0, number % 3, claims[number // 3]) for number in range(192)]
        self.check(duel, tuple((*told[k], (("change", 0, (k + 1) % 192),)) for k in range(192)), None, 0)
        # The last one leads to another one than the first.
        paper = tuple((*told[k], (("change", 0, (k + 1) % 192 or 48),)) for k in range(192))
        self.check(duel, paper, None, 48)


class TestShown(unittest.TestCase):
    def test_by_hand(self):
        # The end of state 0 is 0, that of state 1 is 1.
        self.assertEqual(shown(DUEL, 0, PAPER, ()), (0,))
        self.assertEqual(shown(DUEL, 0, PAPER, (0,)), (0,))
        self.assertEqual(shown(DUEL, 0, PAPER, (1,)), ())
        self.assertEqual(shown(DUEL, 0, PAPER, (2,)), ())
        self.assertEqual(shown(DUEL, 0, PAPER, (0, 0)), (0,))
        self.assertEqual(shown(DUEL, 0, PAPER, (1, 0)), ())

    def test_more_states_the_more_are_shown_beneath(self):
        duel = Duel(DUEL.sides, DUEL.ranks, (1, 0), 3, {
            (state, letter): DUEL.row(state, letter) for state in (0, 1) for letter in range(3)
        })
        self.assertEqual(shown(duel, 0, PAPER, ()), (1,))
        self.assertEqual(shown(duel, 0, PAPER, (0,)), (1,))
        self.assertEqual(shown(duel, 0, PAPER, (1,)), (0,))
        self.assertEqual(shown(duel, 0, PAPER, (2,)), (1,))
        self.assertEqual(shown(duel, 0, PAPER, (0, 1)), (0,))
        self.assertEqual(shown(duel, 0, PAPER, (0, 2)), (1,))
        self.assertEqual(shown(duel, 0, PAPER, (1, 2, 0)), (0,))
        both = Duel((0, 1), (0, 2), (0, 0), 3, {spot: duel.row(*spot) for spot in ((0, 0), (1, 1), (1, 2))})
        self.assertEqual(shown(both, 0, PAPER[:3], (1,)), (1,))

    def test_empty_paper(self):
        for side in (0, 1):
            self.assertEqual(shown(DUEL, side, (), ()), (side,))
            self.assertEqual(shown(DUEL, side, (), (0,)), ())

    def test_claims_without_returns(self):
        duel = Duel((0, 1), (1, 1), (0, 1), 1, {})
        self.assertEqual(shown(duel, 0, ((1, 0, (), ()),), (0, 0)), (1,))
        self.assertEqual(shown(duel, 1, ((0, 0, (), ()),), (0,)), (0,))


class TestBooks(unittest.TestCase):
    # State 0 stays, state 1 as well; letter 1 exchanges them.
    duel = Duel((0, 1), (0, 0), (0, 1), 2, {
        (0, 0): ((0, ()),), (1, 0): ((1, ()),), (0, 1): ((1, ()),), (1, 1): ((0, ()),),
    })
    whole = tuple(
        (state, letter, (((state + letter) % 2, 0),), (("pop", 0),)) for state in (0, 1) for letter in (0, 1)
    )

    def test_taken(self):
        self.assertIsNone(judge_book(self.duel, (self.whole, self.whole)))

    def test_empty_papers(self):
        self.assertEqual(judge_book(self.duel, ((), ())), ("open", (0,), 0))
        self.assertEqual(judge_book(self.duel, (self.whole, ())), ("open", (0,), 1))
        self.assertEqual(judge_book(self.duel, ((), self.whole)), ("open", (0,), 0))

    def test_one_entry_is_missing(self):
        for number, told in enumerate((("open", (0,), 0), ("open", (1, 1), 0), ("open", (0, 1), 1), ("open", (1,), 1))):
            paper = self.whole[:number] + self.whole[number + 1:]
            self.assertEqual(judge_book(self.duel, (paper, self.whole)), told)

    def test_paper_at_fault(self):
        wrong = (*self.whole, (0, 0, (), (("pop", 0),)))
        worse = (None, *self.whole)
        self.assertEqual(judge_book(self.duel, (wrong, self.whole)), ("paper", 0, 4))
        self.assertEqual(judge_book(self.duel, (self.whole, wrong)), ("paper", 1, 4))
        self.assertEqual(judge_book(self.duel, (wrong, worse)), ("paper", 0, 4))
        self.assertEqual(judge_book(self.duel, (worse, wrong)), ("paper", 0, 0))
        self.assertEqual(judge_book(self.duel, ((), worse)), ("paper", 1, 0))


if __name__ == "__main__":
    unittest.main()
