"""Stacks, and who wins with them, told in other ways than the program's: references for the tests."""

from itertools import product

from tests.games import LOST, WON, Game
from towerduel.duels import after
from towerduel.machines import machine


def stacks_up_to(letters, height):
    """All stacks of at most this height, in the order of point 13."""
    return [word[::-1] for many in range(height + 1) for word in product(range(letters), repeat=many)]


def states_of(duel):
    return range(len(duel.sides))


def by_machine(duel, height):
    """A dict from each stack of at most this height, in order, to its winning states, by the machine."""
    rows = machine(duel)
    numbers = {(): 0}
    for stack in stacks_up_to(duel.letters, height)[1:]:
        numbers[stack] = rows[numbers[stack[1:]]][1][stack[0]]
    return {stack: rows[number][0] for stack, number in numbers.items()}


def won_states(duel, side, winning):
    """Of the states those from which this side wins, if side 0 does from the winning ones."""
    return tuple(state for state in states_of(duel) if (state in winning) == (side == 0))


def played_out(duel, state, stack):
    """Who has won the one play from here, in a duel with at most one move in each row.

    A play goes on for ever just if it comes again to the same state and letter,
    with nothing beneath this letter touched in between: then it goes round.
    """
    ranks = []
    # What the play came to with nothing beneath touched since: state, letter, height, and when.
    standing = []
    while stack:
        standing = [seen for seen in standing if seen[2] <= len(stack)]
        for told in standing:
            if told[:2] == (state, stack[0]):
                return min(ranks[told[3]:]) % 2
        standing.append((state, stack[0], len(stack), len(ranks)))
        row = duel.row(state, stack[0])
        if not row:
            return 1 - duel.sides[state]
        state, stack = after(stack, row[0])
        ranks.append(duel.ranks[state])
    return duel.ends[state]


def won_among_low(duel, height, taller):
    """The positions (state, stack) from which side 0 wins if this side has won whenever a stack is taller."""
    game = Game(0)

    def node(state, stack):
        if not stack:
            return LOST if duel.ends[state] else WON
        if len(stack) > height:
            return LOST if taller else WON
        return state, stack

    for stack in stacks_up_to(duel.letters, height)[1:]:
        for state in states_of(duel):
            nexts = [node(*after(stack, move)) for move in duel.row(state, stack[0])]
            game.add((state, stack), duel.sides[state], duel.ranks[state], nexts)
    return game.won() - {WON, LOST}


def with_rows(duel, turn):
    """The duel with each row as turn tells for its spot and the row."""
    return {
        (state, letter): turn((state, letter), duel.row(state, letter))
        for state in states_of(duel) for letter in range(duel.letters)
    }
