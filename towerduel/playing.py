"""Matches, their journals, and players that go by a paper."""

from towerduel.errors import MatchError, NotationError
from towerduel.notes import Notes
from towerduel.plays import Play
from towerduel.texts import numbers_of, words_of


class Match:
    """A play that is being made, with a record of its moves."""

    def __init__(self, duel, state, stack):
        self._beginning = state, stack
        self._play = Play(duel, state, stack)
        # For each move made its number, and what it takes to take it back: the move, and the state and letter ahead.
        self._made = []

    def position(self):
        """The pair (state, stack)."""
        return self._play.position()

    def turn(self):
        """The side to move, None if the match is over."""
        return self._play.turn()

    def won(self):
        """The side that has won, None if the match is not over."""
        return self._play.won()

    def moves(self):
        """The numbers of the moves made."""
        return tuple(number for number, _ in self._made)

    def move(self, number):
        """Makes the move with this number."""
        move = self._play.chosen(number)
        self._made.append((number, (move, self._play.state(), self._play.top())))
        self._play.make(move)

    def take_back(self):
        """Takes the last move back."""
        if not self._made:
            raise MatchError("move")
        _, (move, state, letter) = self._made.pop()
        self._play.unmake(move, state, letter)

    def journal(self):
        """The position at the beginning and the moves made, as a text."""
        state, stack = self._beginning
        letters = "".join(f" {letter}" for letter in stack)
        moves = "".join(f"move {number}\n" for number in self.moves())
        return f"at {state} :{letters}\n{moves}"


def read_journal(duel, text):
    """The match that a journal tells."""
    *lines, rest = text.split("\n")
    told = read_beginning(duel, words_of(lines[0])) if lines else None
    if told is None:
        raise NotationError(1)
    for number, line in enumerate(lines[1:], start=2):
        try:
            told.move(read_move(words_of(line)))
        except MatchError:
            raise NotationError(number) from None
    if rest:
        raise NotationError(len(lines) + 1)
    return told


def read_beginning(duel, words):
    """The match without moves that the words of an at-line tell; None if they tell none."""
    if words[0] != "at" or words[2:3] != [":"]:
        return None
    states, stack = numbers_of(words[1:2]), numbers_of(words[3:])
    if states is None or stack is None or states[0] >= len(duel.sides):
        return None
    if not all(letter < duel.letters for letter in stack):
        return None
    return Match(duel, states[0], tuple(stack))


def read_move(words):
    """The number that the words of a move-line tell; one that no move has if they are none."""
    numbers = numbers_of(words[1:])
    if words[0] != "move" or numbers is None or len(numbers) != 1:
        return -1
    return numbers[0]


class Player:
    """Plays for a side by a paper that the judge takes, from a position at which it shows the win."""

    def __init__(self, duel, side, paper, state, stack):
        self._side = side
        self._paper = paper
        self._play = Play(duel, state, stack)
        self._notes = Notes(duel, side, paper, state, stack)
        if not self._notes.begun_well():
            raise MatchError("lost")

    def move(self):
        """The number of its move."""
        turn = self._play.turn()
        if turn is None:
            raise MatchError("over")
        if turn != self._side:
            raise MatchError("move")
        return self._answers()[0][1]

    def hear(self, number):
        """Goes on behind the move with this number, of whichever side."""
        move = self._play.chosen(number)
        mine = self._play.turn() == self._side
        if mine and number != self.move():
            raise MatchError("lost")
        # At a state of its own side an entry has one answer only.
        answer = self._answers()[0 if mine else number]
        self._play.make(move)
        self._notes.follow(answer, self._play.state(), self._play.top())

    def position(self):
        """The pair (state, stack)."""
        return self._play.position()

    def _answers(self):
        """The answers of the entry that is the note of the top letter."""
        return self._paper[self._notes.entry()][3]
