"""Duels as texts (point 24)."""

from towerduel.duels import MOST_LETTERS, MOST_STATES, Duel, are_states, is_row, spots_of
from towerduel.errors import NotationError
from towerduel.texts import numbers_of, words_of


def print_duel(duel):
    """The text of a duel."""
    lines = [f"state {side} {rank} {end}" for side, rank, end in zip(duel.sides, duel.ranks, duel.ends)]
    lines.append(f"letters {duel.letters}")
    for state, letter in spots_of(duel):
        moves = " | ".join(print_move(move) for move in duel.row(state, letter))
        if moves:
            lines.append(f"on {state} {letter} go {moves}")
    return "".join(f"{line}\n" for line in lines)


def print_move(move):
    """The state of a move, and the letters of its word."""
    state, word = move
    return " ".join(str(number) for number in (state, *word))


def read_duel(text):
    """The duel that a text tells."""
    *lines, rest = text.split("\n")
    draft = Draft()
    for number, line in enumerate(lines, start=1):
        if not draft.take(words_of(line)):
            raise NotationError(number)
    if rest or not draft.has_letters():
        raise NotationError(len(lines) + 1)
    return draft.duel()


class Draft:
    """What the lines of a text told so far."""

    def __init__(self):
        self._heads = []
        self._letters = None
        self._rows = {}

    def has_letters(self):
        """Whether the line that tells the letters was taken."""
        return self._letters is not None

    def duel(self):
        """The duel that was told."""
        sides, ranks, ends = list(zip(*self._heads))
        return Duel(sides, ranks, ends, self._letters, self._rows)

    def take(self, words):
        """Takes the words of the next line, and tells whether they may stand there."""
        if words[0] == "state":
            return self._take_state(numbers_of(words[1:]))
        if words[0] == "letters":
            return self._take_letters(numbers_of(words[1:]))
        if words[0] == "on" and words[3:4] == ["go"]:
            return self._take_row(numbers_of(words[1:3]), moves_of(words[4:]))
        return False

    def _take_state(self, numbers):
        if self.has_letters() or len(self._heads) == MOST_STATES or numbers is None or len(numbers) != 3:
            return False
        side, rank, end = numbers
        if not are_states((side,), (rank,), (end,)):
            return False
        self._heads.append((side, rank, end))
        return True

    def _take_letters(self, numbers):
        if self.has_letters() or not self._heads or numbers is None or len(numbers) != 1:
            return False
        if not 1 <= numbers[0] <= MOST_LETTERS:
            return False
        self._letters = numbers[0]
        return True

    def _take_row(self, numbers, moves):
        if not self.has_letters() or numbers is None or moves is None:
            return False
        state, letter = numbers
        if state >= len(self._heads) or letter >= self._letters:
            return False
        if not all(spot < (state, letter) for spot in self._rows):
            return False
        if not is_row(moves, len(self._heads), self._letters):
            return False
        self._rows[state, letter] = moves
        return True


def moves_of(words):
    """The moves that the words behind a go tell; None if one of them is none."""
    parts = [[]]
    for word in words:
        if word == "|":
            parts.append([])
        else:
            parts[-1].append(word)
    told = [numbers_of(part) for part in parts]
    # Of no words there are no numbers: a move has to tell its state.
    if not all(told):
        return None
    return tuple((numbers[0], tuple(numbers[1:])) for numbers in told)
