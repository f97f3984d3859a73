"""Another player, from points 19 and 21 alone: it keeps the whole play, and what came since when."""

from towerduel.duels import after


def shown_with(duel, side, paper, stack):
    """The set of states for which the paper shows this side's win with the stack (point 19)."""
    states = {state for state in range(len(duel.sides)) if duel.ends[state] == side}
    for top in reversed(stack):
        states = {q for q, g, claim, _ in paper if g == top and all(p in states for p, _ in claim)}
    return states


class Letter:
    """A letter of the stack: its note (an entry's number, a tuple of returns, or None), and when it was put there."""

    def __init__(self, letter, note=None, put=None):
        self.letter = letter
        self.note = note
        self.put = put


class SecondPlayer:
    """Keeps the notes of a player that begins at a position at which its paper shows the win."""

    def __init__(self, duel, side, paper, state, stack):
        self.duel = duel
        self.side = side
        self.paper = paper
        self.state = state
        # The ranks of all states that came, the first one too.
        self.ranks = [duel.ranks[state]]
        self.letters = [Letter(letter) for letter in stack]
        # For each position: the height, and the note of the top letter.
        self.record = []
        if stack:
            self.letters[0].note = self.first_entry()
        self.keep()

    def keep(self):
        self.record.append((len(self.letters), self.letters[0].note if self.letters else None))

    def position(self):
        return self.state, tuple(told.letter for told in self.letters)

    def row(self):
        return self.duel.row(self.state, self.letters[0].letter) if self.letters else ()

    def mine(self):
        return self.duel.sides[self.state] == self.side

    def first_entry(self):
        """The first entry for the top letter, whose claim has only pairs whose states are shown for the rest."""
        top, *rest = [told.letter for told in self.letters]
        states = shown_with(self.duel, self.side, self.paper, rest)
        for number, (q, g, claim, _) in enumerate(self.paper):
            if (q, g) == (self.state, top) and {p for p, _ in claim} <= states:
                return number
        raise AssertionError("no entry")

    def answer(self, number):
        """The answer of the top letter's entry to the move of this number."""
        answers = self.paper[self.letters[0].note][3]
        return [answer for answer in answers if answer[1] == number][0]

    def move(self):
        (answer,) = self.paper[self.letters[0].note][3]
        return answer[1]

    def hear(self, number):
        answer = self.answer(number)
        self.state, stack = after(self.position()[1], self.row()[number])
        self.ranks.append(self.duel.ranks[self.state])
        top = self.letters.pop(0)
        if answer[0] == "pop":
            self.uncover()
        elif answer[0] == "change":
            self.letters.insert(0, Letter(stack[0], answer[2], top.put))
        else:
            now = len(self.ranks) - 1
            self.letters.insert(0, Letter(stack[1], answer[3], now))
            self.letters.insert(0, Letter(stack[0], answer[2]))
        assert self.position()[1] == stack
        self.keep()

    def uncover(self):
        if not self.letters:
            return
        beneath = self.letters[0]
        if beneath.note is None:
            beneath.note = self.first_entry()
        else:
            least = min(self.ranks[beneath.put:])
            (beneath.note,) = [entry for under, due, entry in beneath.note if (under, due) == (self.state, least)]

    def goes_round_wrong(self):
        """Whether the same note came again at the same height, nowhere lower between, with a rank of the other side."""
        for later, (height, note) in enumerate(self.record):
            least = 3
            for earlier in range(later - 1, -1, -1):
                least = min(least, self.ranks[earlier + 1])
                if self.record[earlier][0] < height:
                    break
                if self.record[earlier] == (height, note) and height and least % 2 != self.side:
                    return True
        return False
