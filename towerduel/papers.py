"""Papers: what a side holds, with an answer for each claim that shows how."""

from towerduel.solving import Solver


class Writer:
    """Writes a paper for a side: each least claim that it holds, and each one that these need.

    Claims are asked for as pairs of a spot, which is a pair (state, letter), and
    a mask; their places in the list of what was asked are the numbers of entries.
    """

    def __init__(self, duel, side):
        solver = Solver(duel, side, {})
        self._duel = duel
        self._side = side
        self._tables = solver.tables
        self._stages = solver.stages()
        self._asked = []
        self._numbers = {}

    def paper(self):
        """The paper."""
        held = self._stages[-1].found
        for spot in held:
            for mask in self._tables.least_masks(held[spot]):
                self._number(spot, mask)
        entries = []
        while len(entries) < len(self._asked):
            spot, mask = self._asked[len(entries)]
            entries.append(self._entry(spot, mask))
        return tuple(entries)

    def _number(self, spot, mask):
        """The number of the entry of this claim, which there will be."""
        if (spot, mask) not in self._numbers:
            self._numbers[spot, mask] = len(self._asked)
            self._asked.append((spot, mask))
        return self._numbers[spot, mask]

    def _entry(self, spot, mask):
        state, letter = spot
        stage = self._stage(spot, mask)
        row = self._duel.row(state, letter)
        answers = []
        for number, move in enumerate(row):
            needs = self._needs(stage, move, mask)
            if needs is not None:
                answers.append(self._answer(number, move, needs))
                if self._duel.sides[state] == self._side:
                    break
        return state, letter, self._tables.claim(mask), tuple(answers)

    def _stage(self, spot, mask):
        """The first stage in which this claim was found."""
        for stage in self._stages[:-1]:
            if (stage.found[spot] >> mask) & 1:
                return stage
        return self._stages[-1]

    def _needs(self, stage, move, mask):
        """The claims, as they are asked for, by which this move does for the claim; None if it doesn't."""
        state, word = move
        rank = self._duel.ranks[state]
        if not word:
            return [] if self._tables.mask([(state, rank)]) & mask else None
        above = state, word[0]
        if len(word) == 1:
            needed = self._needed(stage, rank, above, mask)
            return None if needed is None else [(above, needed)]
        for returns in self._tables.least_masks(stage.behind[rank][above]):
            beneath = self._needed_beneath(stage, self._returns(returns, rank), word[1], mask)
            if beneath is not None:
                return [(above, returns), *beneath]
        return None

    def _needed_beneath(self, stage, returns, letter, mask):
        """The claims that are needed at the letter beneath, one for each return; None if there is none for one."""
        beneath = []
        for state, rank in returns:
            needed = self._needed(stage, rank, (state, letter), mask)
            if needed is None:
                return None
            beneath.append(((state, letter), needed))
        return beneath

    def _needed(self, stage, rank, spot, mask):
        """The mask of a claim that does behind a step of this rank to this spot; None if none does."""
        greatest = self._tables.raised(mask, rank)
        for least in self._tables.least_masks(stage.behind[rank][spot]):
            if least & ~greatest == 0:
                return least
        return None

    def _returns(self, mask, rank):
        """The pairs of a claim lowered by a rank, ascending."""
        return sorted({(state, min(own, rank)) for state, own in self._tables.claim(mask)})

    def _answer(self, number, move, needs):
        state, word = move
        if not word:
            return "pop", number
        entries = [self._number(spot, mask) for spot, mask in needs]
        if len(word) == 1:
            return "change", number, entries[0]
        returns = self._returns(needs[0][1], self._duel.ranks[state])
        told = [(under, rank, entry) for (under, rank), entry in zip(returns, entries[1:])]
        return "push", number, entries[0], tuple(told)


def paper(duel, side):
    """A paper that the judge takes, and that shows this side's wins at every stack at which it wins."""
    return Writer(duel, side).paper()


def book(duel):
    """The papers of both sides."""
    return paper(duel, 0), paper(duel, 1)
