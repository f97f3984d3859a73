"""Which claims a side holds by the rules of point 9, if what it holds behind the steps is as guessed."""


class Rules:
    """The rules for a side, with guesses: what is held behind a step of a rank to a state and a letter.

    A guess is a table, lowered by the rank. There is one for each letter and
    each pair (state, rank) that a return can be, at the place of the pair: the
    steps lead to no others. Only what hangs on guesses that were changed is
    worked out anew.
    """

    def __init__(self, duel, side, tables):
        self._tables = tables
        self._mine = [own == side for own in duel.sides]
        self._guesses = [[0] * len(tables.pairs) for _ in range(duel.letters)]
        self._readers = [[{} for pair in tables.pairs] for _ in range(duel.letters)]
        self._moves = {}
        self._held = {}
        self._stale = {}

    def add_row(self, spot, row, ranks):
        """Takes in the row of moves for a state and a letter."""
        self._moves[spot] = [(self._tables.places[state, ranks[state]], word) for state, word in row]
        self._stale[spot] = True
        for place, word in self._moves[spot]:
            if word:
                self._readers[word[0]][place][spot] = True
            if len(word) == 2:
                self._read_beneath(spot, word[1], self._tables.pairs[place][1])

    def _read_beneath(self, spot, letter, rank):
        """Keeps that a push whose step has this rank is made on this letter."""
        for place, (_, due) in enumerate(self._tables.pairs):
            if due <= rank:
                self._readers[letter][place][spot] = True

    def guess(self, letter, place, table):
        """Sets a guess, and tells whether it was another one."""
        if self._guesses[letter][place] == table:
            return False
        self._guesses[letter][place] = table
        for spot in self._readers[letter][place]:
            self._stale[spot] = True
        return True

    def held(self):
        """A dict from each pair (state, letter) to the table of the claims held there."""
        return {spot: self.held_at(spot) for spot in self._moves}

    def held_at(self, spot):
        """The table of the claims held at a state and a letter."""
        if spot in self._stale:
            del self._stale[spot]
            self._held[spot] = self._by_row(spot)
        return self._held[spot]

    def _by_row(self, spot):
        tables = [self._by_move(place, word) for place, word in self._moves[spot]]
        held = 0 if self._mine[spot[0]] else self._tables.whole
        for table in tables:
            held = held | table if self._mine[spot[0]] else held & table
        return held

    def _by_move(self, place, word):
        """The table of the claims held at a state and a letter if this move is made there."""
        if not word:
            return self._tables.having(place)
        above = self._guesses[word[0]][place]
        if len(word) == 1:
            return above
        beneath = self._guesses[word[1]]
        held = 0
        for returns in self._tables.least_places(above):
            met = self._tables.whole
            for due in returns:
                met &= beneath[due]
            held |= met
        return held
