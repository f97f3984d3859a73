"""Duels: states, letters, and rows of moves on a stack."""

from towerduel.errors import ShapeError

MOST_STATES = 3
MOST_LETTERS = 3
MOST_MOVES = 3
MOST_IN_WORD = 2


class Duel:
    """The rules of one game: who moves where, what the moves are, and who wins."""

    def __init__(self, sides, ranks, ends, letters, rows):
        if not are_states(sides, ranks, ends):
            raise ShapeError("states")
        if not 1 <= letters <= MOST_LETTERS:
            raise ShapeError("letters")
        if not are_rows(rows, len(sides), letters):
            raise ShapeError("moves")
        self.sides = sides
        self.ranks = ranks
        self.ends = ends
        self.letters = letters
        self._rows = {spot: rows.get(spot, ()) for spot in all_spots(len(sides), letters)}

    def row(self, state, letter):
        """The moves for a state and the letter on top."""
        return self._rows[state, letter]


def all_spots(states, letters):
    """All pairs of a state and a letter, ascending."""
    return [(state, letter) for state in range(states) for letter in range(letters)]


def spots_of(duel):
    """All pairs of a state and a letter of a duel, ascending."""
    return all_spots(len(duel.sides), duel.letters)


def are_states(sides, ranks, ends):
    """Whether the three tell states as a duel can have them."""
    return (
        1 <= len(sides) <= MOST_STATES
        and len(sides) == len(ranks) == len(ends)
        and all(side in (0, 1) for side in sides)
        and all(rank in (0, 1, 2) for rank in ranks)
        and all(end in (0, 1) for end in ends)
    )


def are_rows(rows, states, letters):
    """Whether these are rows of a duel with so many states and letters."""
    spots = all_spots(states, letters)
    return all(spot in spots and is_row(rows[spot], states, letters) for spot in rows)


def is_row(row, states, letters):
    """Whether this is a row of moves."""
    if len(row) > MOST_MOVES or not all(is_move(move, states, letters) for move in row):
        return False
    return len(set(row)) == len(row)


def is_move(move, states, letters):
    """Whether this is a pair of a state and a word that are there."""
    if not isinstance(move, tuple) or len(move) != 2:
        return False
    state, word = move
    if state not in range(states) or not isinstance(word, tuple):
        return False
    return len(word) <= MOST_IN_WORD and all(letter in range(letters) for letter in word)


def alike(one, other):
    """Whether two duels have the same sides, ranks, ends, letters and rows."""
    if (one.sides, one.ranks, one.ends, one.letters) != (other.sides, other.ranks, other.ends, other.letters):
        return False
    return all(one.row(state, letter) == other.row(state, letter) for state, letter in spots_of(one))


def after(stack, move):
    """The state and the stack behind a move."""
    state, word = move
    return state, word + stack[1:]
