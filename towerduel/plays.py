"""Plays: a position, and the moves that lead on from it."""

from towerduel.errors import MatchError


class Play:
    """A position that moves are made from.

    Its letters are kept from the bottom on: so a move, made or taken back,
    changes the end of a list only, however tall the stack is.
    """

    def __init__(self, duel, state, stack):
        self._duel = duel
        self._state = state
        self._letters = list(reversed(stack))

    def position(self):
        """The pair (state, stack)."""
        return self._state, tuple(reversed(self._letters))

    def state(self):
        """The state."""
        return self._state

    def top(self):
        """The top letter, None if the stack is empty."""
        return self._letters[-1] if self._letters else None

    def choices(self):
        """The row of moves that can be made; it is empty if the play is over."""
        return self._duel.row(self._state, self._letters[-1]) if self._letters else ()

    def turn(self):
        """The side to move, None if the play is over."""
        return self._duel.sides[self._state] if self.choices() else None

    def won(self):
        """The side that has won, None if the play is not over."""
        if self.choices():
            return None
        if self._letters:
            return 1 - self._duel.sides[self._state]
        return self._duel.ends[self._state]

    def chosen(self, number):
        """The move with this number."""
        choices = self.choices()
        if not choices:
            raise MatchError("over")
        if number not in range(len(choices)):
            raise MatchError("move")
        return choices[number]

    def make(self, move):
        """Makes a move of the row."""
        state, word = move
        self._state = state
        self._letters.pop()
        self._letters.extend(word[::-1])

    def unmake(self, move, state, letter):
        """Takes a move back that was made at this state and letter."""
        _, word = move
        self._state = state
        del self._letters[len(self._letters) - len(word):]
        self._letters.append(letter)
