"""Another judge of papers, and another way to tell what they show: from points 16 to 20 alone."""

from tests.stacks import stacks_up_to, states_of


def whole(thing):
    return type(thing) is int and thing >= 0


def tuple_of(thing, *kinds):
    """Whether this is a tuple of just such things; the kinds are functions that tell."""
    return type(thing) is tuple and len(thing) == len(kinds) and all(kind(x) for kind, x in zip(kinds, thing))


def ascends(pairs):
    return list(pairs) == sorted(set(pairs))


def below(claim, rank):
    """The pairs of a claim lowered by a rank."""
    return {(state, rank if rank < own else own) for state, own in claim}


class Reading:
    """A paper as it is read for a side of a duel."""

    def __init__(self, duel, side, paper):
        self.duel = duel
        self.side = side
        self.paper = paper
        # The numbers of those entries that are in form, with their state, letter and claim.
        self.good = {}
        for number, entry in enumerate(paper):
            if self.formed(entry) and entry[:3] not in self.good.values():
                self.good[number] = entry[:3]

    def formed(self, entry):
        def state(x):
            return whole(x) and x < len(self.duel.sides)

        def letter(x):
            return whole(x) and x < self.duel.letters

        def rank(x):
            return whole(x) and x in self.duel.ranks

        def claim(x):
            return type(x) is tuple and all(tuple_of(pair, state, rank) for pair in x) and ascends(x)

        return tuple_of(entry, state, letter, claim, lambda x: type(x) is tuple)

    def right(self, number):
        """Whether the entry breaks none of point 16."""
        if number not in self.good:
            return False
        state, letter, claim, answers = self.paper[number]
        row = self.duel.row(state, letter)
        if self.duel.sides[state] != self.side:
            if len(answers) != len(row):
                return False
            return all(self.answered(answer, k, row[k], claim) for k, answer in enumerate(answers))
        return len(answers) == 1 and any(self.answered(answers[0], k, move, claim) for k, move in enumerate(row))

    def answered(self, answer, number, move, claim):
        """Whether this is an answer for the move of this number, and does for the claim."""
        if type(answer) is not tuple or not answer or type(answer[0]) is not str:
            return False
        state, word = move
        rank = self.duel.ranks[state]
        kind = ("pop", "change", "push")[len(word)]
        if answer[0] != kind or len(answer) != 2 + len(word) or not whole(answer[1]) or answer[1] != number:
            return False
        if kind == "pop":
            return (state, rank) in claim
        if kind == "change":
            return self.does(answer[2], state, word[0], rank, claim)
        if not self.is_of(answer[2], state, word[0]) or type(answer[3]) is not tuple:
            return False
        if not all(tuple_of(told, whole, whole, whole) for told in answer[3]):
            return False
        pairs = [told[:2] for told in answer[3]]
        if not ascends(pairs) or set(pairs) != below(self.good[answer[2]][2], rank):
            return False
        return all(self.does(entry, under, word[1], due, claim) for under, due, entry in answer[3])

    def is_of(self, number, state, letter):
        return whole(number) and number in self.good and self.good[number][:2] == (state, letter)

    def does(self, number, state, letter, rank, claim):
        return self.is_of(number, state, letter) and below(self.good[number][2], rank) <= set(claim)

    def steps(self, number):
        """The steps of point 17: pairs of an entry and a rank."""
        state, letter, _, answers = self.paper[number]
        for kind, move, *told in answers:
            if kind != "pop":
                yield told[0], self.duel.ranks[self.duel.row(state, letter)[move][0]]
            if kind == "push":
                yield from ((entry, due) for _, due, entry in told[1])

    def goes_round_wrong(self, first):
        """Whether the entry lies on a circle whose least rank this side loses by."""
        waiting = list(self.steps(first))
        reached = set()
        while waiting:
            entry, least = place = waiting.pop()
            if place in reached:
                continue
            reached.add(place)
            if entry == first and least % 2 != self.side:
                return True
            waiting += [(following, min(least, rank)) for following, rank in self.steps(entry)]
        return False


def breaks_nothing(duel, side, paper):
    """Whether no entry breaks point 16."""
    reading = Reading(duel, side, paper)
    return all(reading.right(number) for number in range(len(paper)))


def fault(duel, side, paper):
    """What a judge tells of the paper."""
    reading = Reading(duel, side, paper)
    for wrong in (lambda number: not reading.right(number), reading.goes_round_wrong):
        faults = [number for number in range(len(paper)) if wrong(number)]
        if faults:
            return faults[0]
    return None


def shown_by(duel, side, paper, height):
    """A dict from each stack of at most this height, in order, to the states shown, by point 19."""
    told = {(): tuple(state for state in states_of(duel) if duel.ends[state] == side)}
    for stack in stacks_up_to(duel.letters, height)[1:]:
        rest = set(told[stack[1:]])
        states = [q for q, g, claim, _ in paper if g == stack[0] and {p for p, _ in claim} <= rest]
        told[stack] = tuple(sorted(set(states)))
    return told


def first_open(duel, papers, height):
    """The first stack of at most this height, and the state, that neither or both papers show; None if none."""
    one, other = [shown_by(duel, side, papers[side], height) for side in (0, 1)]
    for stack in one:
        for state in states_of(duel):
            if one[stack].count(state) + other[stack].count(state) != 1:
                return "open", stack, state
    return None
