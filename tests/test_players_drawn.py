import unittest
from itertools import product

from tests.drawing import Drawer, drawn, slow
from tests.raising import why_not
from tests.second_player import SecondPlayer, shown_with
from tests.stacks import stacks_up_to, states_of
from tests.turning import reached, taken_out
from towerduel.judging import judge
from towerduel.machines import winner
from towerduel.papers import paper
from towerduel.playing import Player
from towerduel.workshops import Workshop

DUELS = slow() + drawn(
    ((2, 2, 350), (3, 1, 250), (3, 2, 250), (2, 3, 120), (1, 3, 120), (3, 3, 60), (2, 1, 60), (1, 2, 40)), seed=41
)


def told_greater(drawer, duel, entry):
    """The entry with a greater claim: it does for whatever the entry did for."""
    state, letter, claim, answers = entry
    more = drawer.some([(p, r) for p in states_of(duel) for r in sorted(set(duel.ranks))])
    return state, letter, tuple(sorted({*claim, *more})), answers


def moved_on(entry, many):
    """The entry with the numbers that it tells greater by so many."""
    def answer_moved_on(answer):
        told = [number + many for number in answer[2:3]]
        if answer[0] == "push":
            told.append(tuple((state, rank, number + many) for state, rank, number in answer[3]))
        return (*answer[:2], *told)

    return (*entry[:3], tuple(answer_moved_on(answer) for answer in entry[3]))


def with_greater_claims(drawer, duel, told):
    """The paper with some entries of greater claims in front; none of them is a double."""
    fronts = []
    claims = {entry[:3] for entry in told}
    for entry in drawer.some(told):
        greater = told_greater(drawer, duel, entry)
        if greater[:3] not in claims:
            claims.add(greater[:3])
            fronts.append(greater)
    return tuple(moved_on(entry, len(fronts)) for entry in (*fronts, *told))


def shuffled(drawer, things):
    things = list(things)
    return [things.pop(drawer.number(len(things))) for _ in range(len(things))]


def papers_of(drawer, duel, side):
    """Papers of a side, named: as it is made, in other orders, with less in it, with more in it, and the empty one."""
    told = paper(duel, side)
    more = with_greater_claims(drawer, duel, told)
    numbers = range(len(told))
    some = reached(told, drawer.some(numbers))
    return {
        "made": told,
        "turned round": taken_out(told, numbers[::-1]),
        "shuffled": taken_out(told, shuffled(drawer, numbers)),
        "less": taken_out(told, some),
        "less, shuffled": taken_out(told, shuffled(drawer, some)),
        "more": more,
        "more, shuffled": taken_out(more, shuffled(drawer, range(len(more)))),
        "empty": (),
    }


class PlayerCase(unittest.TestCase):
    def both(self, duel, side, told, state, stack):
        """The player and the second one, if the paper shows the win; otherwise checks that none is made."""
        if state in shown_with(duel, side, told, stack):
            return Player(duel, side, told, state, stack), SecondPlayer(duel, side, told, state, stack)
        self.assertEqual(why_not(Player, duel, side, told, state, stack), "lost")
        return None

    def asked_everything(self, player, second):
        """Checks what the player tells and refuses, against the second one."""
        position = second.position()
        row = second.row()
        self.assertEqual(player.position(), position)
        if not row:
            self.assertEqual(why_not(player.move), "over")
        elif second.mine():
            self.assertEqual(player.move(), second.move())
        else:
            self.assertEqual(why_not(player.move), "move")
        for number in (-1, 0, 1, 2, 3, 60):
            if not row:
                self.assertEqual(why_not(player.hear, number), "over")
            elif number not in range(len(row)):
                self.assertEqual(why_not(player.hear, number), "move")
            elif second.mine() and number != second.move():
                self.assertEqual(why_not(player.hear, number), "lost")
        self.assertEqual(player.position(), position)

    def has_won_if_over(self, second):
        if not second.row():
            state, stack = second.position()
            won = 1 - second.duel.sides[state] if stack else second.duel.ends[state]
            self.assertEqual(won, second.side)


class TestMade(PlayerCase):
    def test_enough_are_drawn(self):
        self.assertGreaterEqual(len(DUELS), 1000)

    def test_just_where_the_paper_shows_the_win(self):
        drawer = Drawer(42)
        made = refused = 0
        for duel in DUELS:
            stacks = stacks_up_to(duel.letters, 3 if duel.letters < 3 else 2)
            for side in (0, 1):
                papers = papers_of(drawer, duel, side)
                for name in ("made", "less, shuffled", "more, shuffled", "empty"):
                    for stack, state in product(stacks, states_of(duel)):
                        both = self.both(duel, side, papers[name], state, stack)
                        if both is None:
                            refused += 1
                            continue
                        made += 1
                        self.assertEqual(both[0].position(), (state, stack))
        self.assertGreater(min(made, refused), 30000)


class TestPlays(PlayerCase):
    def played(self, drawer, workshop, both, many):
        """Plays on with drawn moves of the other side, for so many moves; tells if the play has ended."""
        player, second = both
        for _ in range(many):
            self.asked_everything(player, second)
            state, stack = second.position()
            self.assertEqual(workshop.winner(state, stack), second.side)
            if not second.row():
                self.has_won_if_over(second)
                return True
            number = second.move() if second.mine() else drawer.number(len(second.row()))
            self.assertIsNone(player.hear(number))
            second.hear(number)
        self.asked_everything(player, second)
        self.assertFalse(second.goes_round_wrong())
        return False

    def test_drawn_plays(self):
        drawer = Drawer(43)
        found = {}
        for duel in DUELS:
            workshop = Workshop(duel)
            for side in (0, 1):
                for name, told in papers_of(drawer, duel, side).items():
                    self.assertIsNone(judge(duel, side, told))
                    heights = (drawer.number(5), 40) if name == "made" else (drawer.number(5),)
                    for height in heights:
                        state, stack = drawer.number(len(duel.sides)), drawer.numbers(height, duel.letters)
                        both = self.both(duel, side, told, state, stack)
                        ended = both and self.played(drawer, workshop, both, 60)
                        place = name, None if not both else "ended" if ended else "goes on"
                        found[place] = found.get(place, 0) + 1
        for name in ("made", "turned round", "shuffled", "less", "less, shuffled", "more", "more, shuffled"):
            for what in (None, "ended", "goes on"):
                self.assertGreater(found[name, what], 150)

    def test_winner_at_each_position(self):
        drawer = Drawer(44)
        asked = 0
        for duel in DUELS[::8]:
            for side in (0, 1):
                state, stack = drawer.number(len(duel.sides)), drawer.numbers(drawer.number(5), duel.letters)
                both = self.both(duel, side, paper(duel, side), state, stack)
                for _ in range(20 if both else 0):
                    self.assertEqual(winner(duel, *both[0].position()), side)
                    asked += 1
                    second = both[1]
                    if not second.row():
                        break
                    number = second.move() if second.mine() else drawer.number(len(second.row()))
                    both[0].hear(number)
                    second.hear(number)
        self.assertGreater(asked, 1000)

    def test_all_plays_a_few_moves_deep(self):
        drawer = Drawer(45)
        asked = 0
        for duel in DUELS[::2]:
            for side in (0, 1):
                told = taken_out(paper(duel, side), shuffled(drawer, range(len(paper(duel, side)))))
                state, stack = drawer.number(len(duel.sides)), drawer.numbers(1 + drawer.number(3), duel.letters)
                waiting = [()]
                while waiting and len(waiting) < 60:
                    numbers = waiting.pop(0)
                    both = self.both(duel, side, told, state, stack)
                    if both is None:
                        break
                    player, second = both
                    for number in numbers:
                        player.hear(number)
                        second.hear(number)
                    asked += 1
                    self.asked_everything(player, second)
                    self.has_won_if_over(second)
                    self.assertFalse(second.goes_round_wrong())
                    if len(numbers) < 7 and second.row():
                        choices = [second.move()] if second.mine() else range(len(second.row()))
                        waiting += [(*numbers, number) for number in choices]
        self.assertGreater(asked, 5000)


if __name__ == "__main__":
    unittest.main()
