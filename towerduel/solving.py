"""Which claims a side holds: the rules of points 9 and 10, solved for all claims at once."""

from towerduel.claims import ClaimTables
from towerduel.duels import spots_of
from towerduel.rules import Rules


class Stage:
    """What was found to be held by some guesses, and what the guess for each rank was made of.

    found is a dict from each pair (state, letter) to a table, behind one from
    each rank to such a dict: what was found needs, behind a step of a rank,
    only claims that are told there.
    """

    def __init__(self, found):
        self.found = found
        self.behind = {}


class Solver:
    """Works out for a side, and for each state and letter of a duel, the table of the claims held there.

    Each step by which a claim is held has a rank, and of the ranks of a row of
    steps without end the least that comes again and again decides. So there is
    a guess for each rank, of what is held behind steps of this rank, and it is
    mended until it is true, the guesses for greater ranks each time after one
    for a lesser rank. The side wins a circle of its own parity: there the guess
    begins with all claims, otherwise with none.

    What is known of some letters, in a dict as held tells it, is not worked out
    again; of a letter that is known, all that it uses has to be known, too.
    """

    def __init__(self, duel, side, known):
        self.tables = ClaimTables(duel.ranks)
        self._side = side
        self._ranks = sorted(set(duel.ranks))
        self._spots = [spot for spot in spots_of(duel) if spot not in known]
        self._rules = Rules(duel, side, self.tables)
        for spot in self._spots:
            self._rules.add_row(spot, duel.row(*spot), duel.ranks)
        # No circle of steps leaves the letters that are known and comes back to them: there each guess is true.
        for spot in known:
            for rank in self._ranks:
                self._guess_at(rank, spot, known[spot])
        self._rounds = {}
        self._kept = {}

    def held(self):
        """A dict from each pair (state, letter) that was not known to the table of the claims held there."""
        self._kept = {}
        return self._settled(0)

    def stages(self):
        """The stages by which all that is held is found, one after the other; the last one has it all.

        If each claim is held as the first stage that has it tells, the side
        loses no circle of steps: a step of a rank of the other side's parity
        leads to an earlier round of the guess for this rank (or for one ahead of
        it), and no step of a greater rank leads to a later one.
        """
        self._kept = {}
        return self._staged(0)

    def _settled(self, depth):
        """What is held if the guesses for the ranks ahead of this depth are true."""
        rank = self._ranks[depth]
        # In the same round of the rank ahead, but after another guess for the one ahead of that,
        # a guess only goes on from where it stopped: both begin from the same side.
        place = rank, self._rounds.get(rank - 1)
        self._guess(rank, self._kept.get(place, self._first(rank)))
        if depth == len(self._ranks) - 1:
            held = self._settled_last(rank)
        else:
            held = self._settled_by_rounds(depth)
        self._kept[place] = held
        return held

    def _settled_last(self, rank):
        """What is held once the guess for the greatest rank is mended, place by place, until it is true."""
        mended = True
        while mended:
            mended = False
            for spot in self._spots:
                if self._guess_at(rank, spot, self._rules.held_at(spot)):
                    mended = True
        return self._rules.held()

    def _settled_by_rounds(self, depth):
        """What is held once the guess for the rank of this depth is mended until it is true."""
        rank = self._ranks[depth]
        self._rounds[rank] = 0
        held = self._settled(depth + 1)
        while self._guess(rank, held):
            self._rounds[rank] += 1
            held = self._settled(depth + 1)
        return held

    def _staged(self, depth):
        """The stages, if the guesses for the ranks ahead of this depth are true."""
        if depth == len(self._ranks):
            return [Stage(self._rules.held())]
        rank = self._ranks[depth]
        if rank % 2 != self._side:
            return self._staged_by_rounds(depth)
        held = self._settled(depth)
        stages = self._staged(depth + 1)
        for stage in stages:
            stage.behind[rank] = held
        return stages

    def _staged_by_rounds(self, depth):
        """The stages of a guess that begins with no claims, those of one round after the other."""
        rank = self._ranks[depth]
        stages = []
        behind = self._first(rank)
        self._rounds[rank] = 0
        while self._guess(rank, behind) or not stages:
            for stage in self._staged(depth + 1):
                stage.behind[rank] = behind
                stages.append(stage)
            behind = stages[-1].found
            self._rounds[rank] += 1
        return stages

    def _first(self, rank):
        """What a guess for a rank begins with."""
        table = self.tables.whole if rank % 2 == self._side else 0
        return {spot: table for spot in self._spots}

    def _guess(self, rank, held):
        """Guesses that this is held behind steps of a rank, and tells whether the guess was another one."""
        changed = False
        for spot in self._spots:
            if self._guess_at(rank, spot, held[spot]):
                changed = True
        return changed

    def _guess_at(self, rank, spot, table):
        state, letter = spot
        if (state, rank) not in self.tables.places:
            return False
        place = self.tables.places[state, rank]
        return self._rules.guess(letter, place, self.tables.lowered(table, rank))
