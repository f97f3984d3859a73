"""Workshops: a duel under edits, and families that are reckoned only where they may have changed."""

from towerduel.duels import Duel, spots_of
from towerduel.errors import WorkshopError
from towerduel.machines import Winning
from towerduel.solving import Solver


class Workshop:
    """Keeps a duel under edits, and the families of both sides that were reckoned."""

    def __init__(self, duel):
        self._duel = duel
        self._past = []
        self._future = []
        self._store = Store(duel.letters)

    def duel(self):
        """The duel now."""
        return self._duel

    def set_row(self, state, letter, moves):
        """Sets the row of a state and a letter."""
        rows = rows_of(self._duel)
        rows[state, letter] = moves
        self._edit(self._duel.sides, self._duel.ranks, self._duel.ends, rows)

    def set_sides(self, sides):
        """Sets the sides of the states."""
        self._edit(sides, self._duel.ranks, self._duel.ends, rows_of(self._duel))

    def set_ranks(self, ranks):
        """Sets the ranks of the states."""
        self._edit(self._duel.sides, ranks, self._duel.ends, rows_of(self._duel))

    def set_ends(self, ends):
        """Sets the ends of the states."""
        self._edit(self._duel.sides, self._duel.ranks, ends, rows_of(self._duel))

    def undo(self):
        """Undoes the last edit."""
        if not self._past:
            raise WorkshopError("nothing to undo")
        self._future.append(self._duel)
        self._turn_to(self._past.pop())

    def again(self):
        """Makes the edit again that was undone last."""
        if not self._future:
            raise WorkshopError("nothing to make again")
        self._past.append(self._duel)
        self._turn_to(self._future.pop())

    def families(self, side):
        """A dict from each pair (state, letter) to the family of this side."""
        self._store.reckon(self._duel)
        return self._store.families(side)

    def machine(self):
        """The machine of the duel."""
        return self._winning().machine()

    def winner(self, state, stack):
        """The side that wins at a state and a stack."""
        return self._winning().winner(state, stack)

    def reckoned(self):
        """How many times families were reckoned, letter by letter."""
        return self._store.counts()

    def _winning(self):
        self._store.reckon(self._duel)
        return Winning(self._duel, self._store.tables_of(0))

    def _edit(self, sides, ranks, ends, rows):
        """Goes on with the duel of these parts; if there is none, nothing is changed."""
        edited = Duel(sides, ranks, ends, self._duel.letters, rows)
        self._past.append(self._duel)
        self._future = []
        self._turn_to(edited)

    def _turn_to(self, duel):
        """Goes on with this duel, which one edit parts from the one before."""
        self._store.take_away(touched_letters(self._duel, duel))
        self._duel = duel


class Store:
    """The families of both sides, for the letters for which they were reckoned."""

    def __init__(self, letters):
        self._counts = [0] * letters
        # For each side a dict from pairs (state, letter) to the table of the claims held there, and one to the family.
        self._held = [{}, {}]
        self._families = [{}, {}]

    def counts(self):
        """How many times families were reckoned for each letter."""
        return tuple(self._counts)

    def tables_of(self, side):
        """The tables of the claims that this side holds."""
        return self._held[side]

    def families(self, side):
        """The families of this side, in a dict that is the caller's."""
        return {spot: self._families[side][spot] for spot in sorted(self._families[side])}

    def reckon(self, duel):
        """Makes the families for all letters for which there are none."""
        missing = [letter for letter in range(duel.letters) if (0, letter) not in self._held[0]]
        if not missing:
            return
        for side in (0, 1):
            solver = Solver(duel, side, self._held[side])
            found = solver.held()
            for spot in found:
                self._held[side][spot] = found[spot]
                self._families[side][spot] = solver.tables.family(found[spot])
        for letter in missing:
            self._counts[letter] += 1

    def take_away(self, letters):
        """Takes away the families for these letters."""
        self._held = [without(letters, told) for told in self._held]
        self._families = [without(letters, told) for told in self._families]


def without(letters, told):
    """What is told for pairs (state, letter), without these letters."""
    return {spot: told[spot] for spot in told if spot[1] not in letters}


def rows_of(duel):
    """A dict from each pair (state, letter) to its row."""
    return {spot: duel.row(*spot) for spot in spots_of(duel)}


def touched_letters(one, other):
    """The letters for which families may be others in the other duel; one edit parts the two."""
    if one.sides != other.sides or one.ranks != other.ranks:
        return list(range(one.letters))
    touched = []
    for state, letter in spots_of(one):
        if one.row(state, letter) != other.row(state, letter):
            touched += users_of(one, letter) + users_of(other, letter)
    return touched


def users_of(duel, letter):
    """The letter itself, and all letters that use it."""
    users = []
    waiting = [letter]
    while waiting:
        used = waiting.pop()
        if used not in users:
            users.append(used)
            waiting += [user for user in range(duel.letters) if occurs(duel, used, user)]
    return users


def occurs(duel, used, letter):
    """Whether a letter occurs in the word of some move of a row for another one."""
    return any(used in word for state in range(len(duel.sides)) for _, word in duel.row(state, letter))
