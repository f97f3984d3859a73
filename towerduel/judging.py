"""Judging papers: whether they show what they tell (points 16 to 20)."""

from towerduel.circles import least_on_wrong_circle
from towerduel.families import lowered
from towerduel.forms import entries_in_form, is_answer
from towerduel.reading import explored, read


class Judge:
    """Looks at each entry of a paper for itself."""

    def __init__(self, duel, side, paper):
        self._duel = duel
        self._side = side
        self._paper = paper
        self._in_form = entries_in_form(duel, paper)

    def stands(self, number):
        """Whether the entry breaks nothing of point 16."""
        if not self._in_form[number]:
            return False
        state, letter, claim, answers = self._paper[number]
        row = self._duel.row(state, letter)
        if not all(is_answer(answer, row, len(self._paper)) for answer in answers):
            return False
        if self._duel.sides[state] == self._side:
            asked_for = len(answers) == 1
        else:
            asked_for = [answer[1] for answer in answers] == list(range(len(row)))
        return asked_for and all(self._does(answer, row[answer[1]], claim) for answer in answers)

    def _does(self, answer, move, claim):
        """Whether an answer that is in the form of its move does for a claim."""
        state, word = move
        rank = self._duel.ranks[state]
        if not word:
            return (state, rank) in claim
        if len(word) == 1:
            return self._leads(answer[2], state, word[0], rank, claim)
        if not self._is_at(answer[2], state, word[0]):
            return False
        returns = tuple((under, due) for under, due, _ in answer[3])
        if returns != lowered(self._paper[answer[2]][2], rank):
            return False
        return all(self._leads(entry, under, word[1], due, claim) for under, due, entry in answer[3])

    def _is_at(self, number, state, letter):
        """Whether the entry is in form, and of this state and letter."""
        return self._in_form[number] and self._paper[number][:2] == (state, letter)

    def _leads(self, number, state, letter, rank, claim):
        """Whether the entry is of this state and letter, and lowered by the rank a part of the claim."""
        if not self._is_at(number, state, letter):
            return False
        return all(pair in claim for pair in lowered(self._paper[number][2], rank))


def steps_of(duel, paper):
    """For each entry of a paper that breaks nothing of point 16 its steps, pairs (rank, entry)."""
    return [
        [step for answer in answers for step in steps_by(duel, duel.row(state, letter), answer)]
        for state, letter, _, answers in paper
    ]


def steps_by(duel, row, answer):
    """The steps that an answer tells."""
    if answer[0] == "pop":
        return []
    state, _ = row[answer[1]]
    steps = [(duel.ranks[state], answer[2])]
    if answer[0] == "push":
        steps += [(rank, entry) for _, rank, entry in answer[3]]
    return steps


class Showing:
    """Tells for which states a paper shows its side's win, letter by letter."""

    def __init__(self, duel, side, paper):
        self._states = tuple(range(len(duel.sides)))
        self._claims = {}
        for state, letter, claim, _ in paper:
            self._claims.setdefault((state, letter), []).append(claim)
        self.empty = tuple(state for state in self._states if duel.ends[state] == side)

    def above(self, states, letter):
        """The states shown for a stack with this letter put on top, of what has these ones."""
        return tuple(state for state in self._states if self._shows(state, letter, states))

    def _shows(self, state, letter, states):
        claims = self._claims.get((state, letter), [])
        return any(covers(states, claim) for claim in claims)


def covers(states, claim):
    """Whether a claim has only pairs of these states."""
    return all(state in states for state, _ in claim)


def judge(duel, side, paper):
    """The number of the entry at fault, None if the judge takes the paper."""
    judging = Judge(duel, side, paper)
    for number in range(len(paper)):
        if not judging.stands(number):
            return number
    return least_on_wrong_circle(steps_of(duel, paper), side)


def shown(duel, side, paper, stack):
    """The states for which a paper that the judge takes shows this side's win with the stack."""
    showing = Showing(duel, side, paper)
    return read(stack, showing.empty, showing.above)


def judge_book(duel, papers):
    """The first fault of a pair of papers, None if the judge of books takes them."""
    for side in (0, 1):
        entry = judge(duel, side, papers[side])
        if entry is not None:
            return "paper", side, entry
    first, second = [Showing(duel, side, papers[side]) for side in (0, 1)]

    def above(pair, letter):
        return first.above(pair[0], letter), second.above(pair[1], letter)

    for (states, others), stack, _ in explored((first.empty, second.empty), duel.letters, above):
        for state in range(len(duel.sides)):
            if (state in states) == (state in others):
                return "open", stack, state
    return None
