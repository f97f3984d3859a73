"""The notes of a player: what it keeps for each letter of the stack (point 21)."""

from towerduel.judging import Showing, covers
from towerduel.reading import read_heights

# The least of no ranks: above each rank.
NO_RANK = 3


class Notes:
    """The notes for the letters of a stack, by a paper for a side that the judge takes.

    The top letter has the number of an entry. A letter beneath has the returns
    that are due, or None as long as it has no note; and a least rank, of the
    states that came since it was put there, but those not yet that are in the
    least ranks of letters further up.
    """

    def __init__(self, duel, side, paper, state, stack):
        self._ranks = duel.ranks
        self._claims = {}
        for number, (at_state, letter, claim, _) in enumerate(paper):
            self._claims.setdefault((at_state, letter), []).append((number, claim))
        showing = Showing(duel, side, paper)
        # What lies beneath a letter without a note is still as it was at the beginning.
        self._shown = read_heights(stack, showing.empty, showing.above)
        self._due = [None] * (len(stack) - 1)
        self._least = [NO_RANK] * (len(stack) - 1)
        self._begun_well = state in self._shown[-1]
        self._top_entry = self._first_entry(state, stack[0]) if stack else None

    def begun_well(self):
        """Whether the paper shows the win at the position at the beginning."""
        return self._begun_well

    def entry(self):
        """The number of the entry that is the note of the top letter, None if there is no letter."""
        return self._top_entry

    def follow(self, answer, state, letter):
        """Goes on behind a move with this answer, which led to this state with this letter on top."""
        rank = self._ranks[state]
        if answer[0] == "pop":
            self._uncover(state, letter, rank)
            return
        self._top_entry = answer[2]
        if answer[0] == "change":
            self._count(rank)
        else:
            self._due.append(answer[3])
            self._least.append(rank)

    def _uncover(self, state, letter, rank):
        """Makes the note of the letter beneath one for the top letter."""
        if letter is None:
            self._top_entry = None
            return
        returns = self._due.pop()
        least = min(self._least.pop(), rank)
        self._count(least)
        if returns is None:
            self._top_entry = self._first_entry(state, letter)
        else:
            self._top_entry = entry_of_return(returns, state, least)

    def _count(self, rank):
        """Counts a rank that came for the letter beneath; it is passed on further down when that one is uncovered."""
        if self._least:
            self._least[-1] = min(self._least[-1], rank)

    def _first_entry(self, state, letter):
        """The first entry of the state and the letter whose claim is shown for the rest beneath; None if none is."""
        beneath = self._shown[len(self._due)]
        for number, claim in self._claims.get((state, letter), []):
            if covers(beneath, claim):
                return number
        return None


def entry_of_return(returns, state, rank):
    """The number of the entry that the returns tell for a state and a rank."""
    entries = {(under, due): entry for under, due, entry in returns}
    return entries[state, rank]
