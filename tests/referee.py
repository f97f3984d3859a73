"""Other ways to tell what a side holds, straight from the document: references for the tests."""

from itertools import chain, combinations, product

from tests.games import LOST, NEUTRAL, WON, Game
from towerduel.duels import after

# Above every rank: the least of no ranks.
NONE_YET = 3


def pairs_of(duel):
    """All pairs of a state and a rank that some state has."""
    return [(state, rank) for state in range(len(duel.sides)) for rank in sorted(set(duel.ranks))]


def spots_of(duel):
    return list(product(range(len(duel.sides)), range(duel.letters)))


def claims_over(pairs):
    """All claims over these pairs, as sets."""
    return [frozenset(claim) for claim in chain(*(combinations(pairs, many) for many in range(len(pairs) + 1)))]


def lower(claim, rank):
    return frozenset((state, min(own, rank)) for state, own in claim)


def least_of(claims):
    """Those of the claims that have no other one as a part."""
    claims = set(claims)
    return {claim for claim in claims if not any(other < claim for other in claims)}


class Rules:
    """The rules of point 9, over told families of a side, with claims as numbers with a bit for each pair."""

    def __init__(self, duel, side, told):
        self.duel = duel
        self.side = side
        self.pairs = pairs_of(duel)
        self.bit = {pair: 1 << place for place, pair in enumerate(self.pairs)}
        # The claims of each family, and the same ones lowered by each rank.
        self.told = {spot: [self.bits(claim) for claim in family] for spot, family in told.items()}
        self.below = {
            (spot, rank): [lower(claim, rank) for claim in family]
            for spot, family in told.items() for rank in set(duel.ranks)
        }
        self.below_bits = {key: [self.bits(claim) for claim in claims] for key, claims in self.below.items()}

    def bits(self, claim):
        return sum(self.bit[pair] for pair in set(claim))

    def all_claims(self):
        return range(1 << len(self.pairs))

    def told_to_hold(self, spot, claim):
        """Whether the families say that the claim is held."""
        return any(least & ~claim == 0 for least in self.told[spot])

    def made_true(self, spot, rank, claim):
        """Whether some claim is held at the spot that, lowered by the rank, is a part of this one."""
        return any(least & ~claim == 0 for least in self.below_bits[spot, rank])

    def good(self, move, claim):
        state, word = move
        rank = self.duel.ranks[state]
        if not word:
            return self.bit[state, rank] & claim != 0
        if len(word) == 1:
            return self.made_true((state, word[0]), rank, claim)
        return any(
            all(self.made_true((under, word[1]), due, claim) for under, due in returns)
            for returns in self.below[(state, word[0]), rank]
        )

    def held(self, spot, claim):
        """Whether the claim is held by the rules."""
        answers = [self.good(move, claim) for move in self.duel.row(*spot)]
        return any(answers) if self.duel.sides[spot[0]] == self.side else all(answers)


class Forcing:
    """What a side can force within a few moves: the least claims, by looking through all the plays."""

    def __init__(self, duel, side):
        self.duel = duel
        self.side = side
        self.known = {}

    def forced(self, state, stack, least, moves):
        """The least claims in which this side can make the level end within so many moves, or win by then."""
        key = state, stack, least, moves
        if key not in self.known:
            self.known[key] = self.look(*key)
        return self.known[key]

    def look(self, state, stack, least, moves):
        if not stack:
            return {frozenset([(state, least)])}
        row = self.duel.row(state, stack[0])
        if moves == 0 and row:
            return set()
        found = [self.behind(after(stack, move), least, moves - 1) for move in row]
        if self.duel.sides[state] == self.side:
            return least_of(chain(*found))
        return least_of(frozenset(chain(*claims)) for claims in product(*found))

    def behind(self, position, least, moves):
        state, stack = position
        return self.forced(state, stack, min(least, self.duel.ranks[state]), moves)


def won_below(duel, side, claim, height):
    """The spots at which this side has a way for the claim on which no level has more than so many letters.

    The level is played out by points 7 and 8; a higher stack counts as lost.
    """
    game = Game(side)
    first = [(state, (letter,), NONE_YET) for state, letter in spots_of(duel)]
    waiting = list(first)

    def place(state, stack, least):
        if not stack:
            return WON if (state, least) in claim else LOST
        if len(stack) > height:
            return LOST
        waiting.append((state, stack, least))
        return waiting[-1]

    while waiting:
        state, stack, least = node = waiting.pop()
        if node in game.nexts:
            continue
        behind = [after(stack, move) for move in duel.row(state, stack[0])]
        nexts = [place(new, rest, min(least, duel.ranks[new])) for new, rest in behind]
        game.add(node, duel.sides[state], duel.ranks[state], nexts)
    won = game.won()
    return [(state, stack[0]) for state, stack, least in first if (state, stack, least) in won]


def held_by_circles(duel, side):
    """All (spot, claim) that are held by points 9 and 10, taken word by word as a game on claims."""
    claims = claims_over(pairs_of(duel))
    game = Game(side)

    def step(rank, spot, claim):
        """A step of this rank to a claim at a spot."""
        node = ("step", rank, spot, claim)
        game.add(node, side, rank, [("at", spot, claim)])
        return node

    def below(rank, spot, claim):
        """The side chooses a claim at the spot that, lowered by the rank, is a part of this one."""
        node = ("below", rank, spot, claim)
        if node not in game.nexts:
            game.add(node, side, NEUTRAL, [step(rank, spot, some) for some in claims if lower(some, rank) <= claim])
        return node

    def made(move, claim):
        state, word = move
        rank = duel.ranks[state]
        if not word:
            return WON if (state, rank) in claim else LOST
        if len(word) == 1:
            return below(rank, (state, word[0]), claim)
        node = ("push", move, claim)
        if node not in game.nexts:
            game.add(node, side, NEUTRAL, [split(rank, (state, word[0]), some, word[1], claim) for some in claims])
        return node

    def split(rank, spot, some, letter, claim):
        """The other side chooses to go with the claim above, or with one of its returns."""
        node = ("split", rank, spot, some, letter, claim)
        if node not in game.nexts:
            rest = [below(due, (under, letter), claim) for under, due in lower(some, rank)]
            game.add(node, 1 - side, NEUTRAL, [step(rank, spot, some), *rest])
        return node

    for spot, claim in product(spots_of(duel), claims):
        nexts = [made(move, claim) for move in duel.row(*spot)]
        game.add(("at", spot, claim), duel.sides[spot[0]], NEUTRAL, nexts)
    won = game.won()
    return {(spot, claim) for spot, claim in product(spots_of(duel), claims) if ("at", spot, claim) in won}
