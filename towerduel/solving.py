"""Which claims a side holds: the rules of points 9 and 10, solved for all claims at once."""

from towerduel.claims import ClaimTables
from towerduel.duels import spots_of


class Solver:
    """Works out for a side, and for each state and letter of a duel, the table of the claims held there.

    Each step by which a claim is held has a rank, and of the ranks of a row of
    steps without end the least that comes again and again decides. So there is
    a guess for each rank, of what is held behind steps of this rank, and it is
    mended until it is true; what the guesses for greater ranks had become is
    forgotten each time that one for a lesser rank is mended.
    """

    def __init__(self, duel, side):
        self.duel = duel
        self.side = side
        self.tables = ClaimTables(duel.ranks)
        self._spots = spots_of(duel)
        self._ranks = sorted(set(duel.ranks))
        self._guesses = {}

    def held(self):
        """A dict from each pair (state, letter) to the table of the claims held there."""
        return self._settled(0)

    def _settled(self, depth):
        """What is held if the guesses for the ranks ahead of this depth are true."""
        if depth == len(self._ranks):
            return {spot: self._held_at(spot) for spot in self._spots}
        rank = self._ranks[depth]
        # The side wins a circle of its own parity: there a claim is held unless the rules speak against it.
        start = self.tables.whole if rank % 2 == self.side else 0
        guess = {spot: start for spot in self._spots}
        while True:
            self._guesses[rank] = guess
            found = self._settled(depth + 1)
            mended = {spot: self.tables.lowered(found[spot], rank) for spot in self._spots}
            if mended == guess:
                return found
            guess = mended

    def _held_at(self, spot):
        """The table of the claims held at a state and a letter, by the rows and the guesses."""
        state, letter = spot
        tables = [self._held_by(move) for move in self.duel.row(state, letter)]
        if self.duel.sides[state] == self.side:
            return joined(tables)
        return common(tables, self.tables.whole)

    def _held_by(self, move):
        """The table of the claims held at a state and a letter if this move is made there."""
        state, word = move
        rank = self.duel.ranks[state]
        if not word:
            return self.tables.having((state, rank))
        above = self._guesses[rank][state, word[0]]
        if len(word) == 1:
            return above
        return joined([self._met(claim, word[1]) for claim in self.tables.least(above)])

    def _met(self, returns, letter):
        """The table of the claims held if each of the returns is made to the letter beneath."""
        return common([self._guesses[rank][state, letter] for state, rank in returns], self.tables.whole)


def joined(tables):
    """The table of all claims that are in one of the tables."""
    total = 0
    for table in tables:
        total |= table
    return total


def common(tables, whole):
    """The table of all claims of a whole table that are in each of the tables."""
    for table in tables:
        whole &= table
    return whole
