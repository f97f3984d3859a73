"""Who wins from which stack: the machine of a duel, and what it tells."""

from towerduel.claims import ClaimTables
from towerduel.duels import after
from towerduel.errors import ShapeError
from towerduel.reading import explored, read
from towerduel.solving import Solver


class Winning:
    """Tells the winning states of stacks, letter by letter, by the tables of the claims that side 0 holds."""

    def __init__(self, duel, held):
        self._tables = ClaimTables(duel.ranks)
        self._held = held
        self._letters = duel.letters
        self._states = range_of_states(duel)
        self.empty = tuple(state for state in self._states if duel.ends[state] == 0)

    def above(self, states, letter):
        """The winning states of a stack with this letter put on top, of what has these ones."""
        claim = [pair for pair in self._tables.pairs if pair[0] in states]
        return tuple(state for state in self._states if self._tables.has(self._held[state, letter], claim))

    def of_stack(self, stack):
        """The winning states of a stack."""
        return read(stack, self.empty, self.above)

    def of_all_stacks(self):
        """Triples of winning states that some stack has, the first such stack, and the numbers of its steps."""
        return explored(self.empty, self._letters, self.above)

    def machine(self):
        """The rows of the machine."""
        return tuple((states, steps) for states, _, steps in self.of_all_stacks())

    def winner(self, state, stack):
        """The side that wins at a state and a stack."""
        return 0 if state in self.of_stack(stack) else 1


def winning_of(duel):
    """What tells the winning states of stacks of a duel."""
    return Winning(duel, Solver(duel, 0, {}).held())


def range_of_states(duel):
    """The states of a duel, ascending."""
    return tuple(range(len(duel.sides)))


def has_won(side, state, states):
    """Whether this side wins at a state and a stack with these winning states."""
    return (state in states) == (side == 0)


def machine(duel):
    """The machine of a duel: a row for each set of winning states, with the numbers of its steps."""
    return winning_of(duel).machine()


def winner(duel, state, stack):
    """The side that wins at a state and a stack."""
    return winning_of(duel).winner(state, stack)


def first_win(duel, side, state):
    """The first stack with which this side wins at this state, None if there is none."""
    for states, stack, _ in winning_of(duel).of_all_stacks():
        if has_won(side, state, states):
            return stack
    return None


def count_wins(duel, state, height):
    """How many stacks of this height side 0 wins with at this state."""
    rows = machine(duel)
    counts = [1] + [0] * (len(rows) - 1)
    for _ in range(height):
        above = [0] * len(rows)
        for many, (_, steps) in zip(counts, rows):
            for number in steps:
                above[number] += many
        counts = above
    return sum(many for many, (states, _) in zip(counts, rows) if state in states)


def part(one, other):
    """The first stack at which two duels part, and the least state there; None if they don't."""
    if len(one.sides) != len(other.sides):
        raise ShapeError("states")
    if one.letters != other.letters:
        raise ShapeError("letters")
    first, second = winning_of(one), winning_of(other)

    def above(pair, letter):
        return first.above(pair[0], letter), second.above(pair[1], letter)

    for (states, others), stack, _ in explored((first.empty, second.empty), one.letters, above):
        for state in range_of_states(one):
            if (state in states) != (state in others):
                return stack, state
    return None


def good_moves(duel, state, stack):
    """The numbers of the moves that leave the side to move a winner."""
    if not stack:
        return ()
    winning = winning_of(duel)
    good = []
    for number, move in enumerate(duel.row(state, stack[0])):
        behind, rest = after(stack, move)
        if has_won(duel.sides[state], behind, winning.of_stack(rest)):
            good.append(number)
    return tuple(good)
