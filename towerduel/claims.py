"""Sets of claims as numbers.

Whatever holds a claim holds each greater one, so the sets of claims here have
with a claim each greater one. Such a set is kept as a table, a number with a
bit for each claim: so whole sets are joined, cut and lowered by a few steps of
arithmetic. The place of a claim's bit is its mask, a number with a bit for
each pair of the claim.
"""


def return_pairs(ranks):
    """All pairs (state, rank) that a return can be, ascending.

    The rank of a return counts the rank of its state, so it is never above it:
    no other pair makes a claim easier to hold.
    """
    kinds = sorted(set(ranks))
    return [(state, rank) for state in range(len(ranks)) for rank in kinds if rank <= ranks[state]]


def masks_with(place, places):
    """The table of all masks of so many places that have a bit at this place."""
    half = 1 << place
    table = ((1 << half) - 1) << half
    for further in range(place + 1, places):
        table |= table << (1 << further)
    return table


def places_of(bits):
    """The places of the bits of a number, ascending."""
    places = []
    while bits:
        lowest = bits & -bits
        places.append(lowest.bit_length() - 1)
        bits ^= lowest
    return places


class ClaimTables:
    """The tables of claims over the returns that there are with these ranks."""

    def __init__(self, ranks):
        self.pairs = return_pairs(ranks)
        self.places = {pair: place for place, pair in enumerate(self.pairs)}
        self.whole = (1 << (1 << len(self.pairs))) - 1
        self._having = [masks_with(place, len(self.pairs)) for place in range(len(self.pairs))]
        self._least = {}
        self._lowered = {}
        self._raised = {}

    def having(self, place):
        """The table of all claims that have the pair at this place."""
        return self._having[place]

    def has(self, table, claim):
        """Whether a claim is in a table."""
        return (table >> self.mask(claim)) & 1 == 1

    def mask(self, claim):
        """The mask of a claim."""
        mask = 0
        for pair in claim:
            # A pair that is no return makes no difference.
            if pair in self.places:
                mask |= 1 << self.places[pair]
        return mask

    def claim(self, mask):
        """The claim that has this mask."""
        return tuple(self.pairs[place] for place in places_of(mask))

    def family(self, table):
        """The least claims of a table, in ascending order."""
        return tuple(sorted(self.claim(mask) for mask in self.least_masks(table)))

    def least_masks(self, table):
        """The masks of the least claims of a table."""
        return places_of(self._least_bits(table))

    def least_places(self, table):
        """The least claims of a table, each one as the places of its pairs."""
        if table not in self._least:
            self._least[table] = [places_of(mask) for mask in self.least_masks(table)]
        return self._least[table]

    def _least_bits(self, table):
        greater = 0
        for place, having in enumerate(self._having):
            greater |= (table & ~having) << (1 << place)
        return table & ~greater

    def raised(self, mask, rank):
        """The mask of the greatest claim that, lowered by the rank, is a part of the one with this mask."""
        if (mask, rank) not in self._raised:
            self._raised[mask, rank] = self._raise(mask, rank)
        return self._raised[mask, rank]

    def _raise(self, mask, rank):
        claim = self.claim(mask)
        return self.mask([(state, own) for state, own in self.pairs if (state, min(own, rank)) in claim])

    def lowered(self, table, rank):
        """The table of all claims of which a claim of this table, lowered by the rank, is a part."""
        if (table, rank) not in self._lowered:
            self._lowered[table, rank] = self._lower(table, rank)
        return self._lowered[table, rank]

    def _lower(self, table, rank):
        for state, own in self.pairs:
            if own > rank:
                table = self._replaced(table, (state, own), (state, rank))
        return table

    def _replaced(self, table, pair, other):
        """The table of all claims that would be in this table if they had the pair just where they have the other."""
        having = self.having(self.places[pair])
        step = 1 << self.places[pair]
        lacking = table & ~having
        lacking |= lacking << step
        given = table & having
        given |= given >> step
        return lacking | given & self.having(self.places[other])
