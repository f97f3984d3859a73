"""Families: the least claims that a side holds at a state and a letter."""

from towerduel.solving import Solver


def lowered(claim, rank):
    """The claim with no rank above this one."""
    return tuple(sorted({(state, min(own, rank)) for state, own in claim}))


def families(duel, side):
    """A dict from each pair (state, letter) to the family of this side."""
    solver = Solver(duel, side, {})
    held = solver.held()
    return {spot: solver.tables.family(held[spot]) for spot in held}


def holds(duel, side, state, letter, claim):
    """Whether this side holds this claim at this state and letter."""
    solver = Solver(duel, side, {})
    return solver.tables.has(solver.held()[state, letter], claim)
