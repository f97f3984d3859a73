"""Duels for the tests: drawn by an arithmetic of their own, the same ones each time."""

from towerduel.duels import Duel

# States, letters, and how many duels of this size are drawn.
SIZES = (
    (2, 2, 900),
    (3, 1, 700),
    (3, 2, 700),
    (2, 3, 450),
    (1, 3, 200),
    (3, 3, 150),
    (2, 1, 100),
    (1, 2, 60),
    (1, 1, 40),
)


class Drawer:
    """Draws numbers, and duels by them."""

    def __init__(self, seed):
        self.seed = seed

    def number(self, below):
        """A number from 0 on, below this one."""
        self.seed = (self.seed * 6364136223846793005 + 1442695040888963407) % 2**64
        return (self.seed >> 33) % below

    def numbers(self, many, below):
        return tuple(self.number(below) for _ in range(many))

    def move(self, states, letters):
        return self.number(states), self.numbers(self.number(3), letters)

    def row(self, states, letters):
        moves = [self.move(states, letters) for _ in range(self.number(4))]
        return tuple(dict.fromkeys(moves))

    def rows(self, states, letters):
        return {(state, letter): self.row(states, letters) for state in range(states) for letter in range(letters)}

    def duel(self, states, letters):
        sides, ranks, ends = self.numbers(states, 2), self.numbers(states, 3), self.numbers(states, 2)
        return Duel(sides, ranks, ends, letters, self.rows(states, letters))

    def one_of(self, things):
        return things[self.number(len(things))]

    def some(self, things):
        """Each of the things or not, as it comes."""
        return tuple(thing for thing in things if self.number(2))


def drawn(sizes=SIZES, seed=1):
    """The drawn duels."""
    drawer = Drawer(seed)
    return [drawer.duel(states, letters) for states, letters, many in sizes for _ in range(many)]


# Found by a long search for duels whose families take the most steps to work out.
SLOW = (
    (
        (0, 0), (1, 2), (0, 0), 2,
        {
            (0, 0): ((1, ()), (1, (0, 0))),
            (0, 1): ((0, (1, 1)), (1, (0, 0)), (0, (1,))),
            (1, 0): ((1, (1, 1)), (0, (1,)), (1, (1, 0))),
            (1, 1): ((0, ()), (0, (0, 1))),
        },
    ),
    (
        (0, 1, 1), (1, 2, 0), (0, 0, 0), 1,
        {
            (0, 0): ((1, (0,)), (0, (0, 0)), (2, ())),
            (1, 0): ((1, ()), (1, (0, 0)), (0, ())),
            (2, 0): ((1, ()), (2, (0, 0))),
        },
    ),
    (
        (1, 1), (1, 0), (1, 1), 3,
        {
            (0, 0): ((1, (1, 1)), (1, (2, 0)), (0, (2,))),
            (0, 1): ((1, ()), (1, (2, 2))),
            (0, 2): ((0, (1, 0)), (1, (1, 2)), (1, (2, 2))),
            (1, 0): ((1, (1, 0)), (1, (2, 2)), (0, (2, 0))),
            (1, 1): ((0, (0, 2)), (0, ()), (1, (2, 0))),
            (1, 2): ((1, (1, 2)), (1, (2, 2)), (0, (1, 2))),
        },
    ),
    (
        (1, 0, 1), (2, 1, 0), (1, 1, 0), 2,
        {
            (0, 0): ((2, ()), (2, (1,)), (0, (0, 0))),
            (0, 1): ((0, (1, 0)), (1, ())),
            (1, 0): ((0, ()), (1, (1,)), (0, (1,))),
            (1, 1): ((1, (1, 0)), (1, (0, 1)), (0, (1, 1))),
            (2, 0): ((0, (0, 0)), (2, ()), (1, (1, 0))),
            (2, 1): ((2, (0, 1)), (0, ()), (0, (1, 0))),
        },
    ),
    (
        (1, 0, 1), (2, 1, 0), (1, 0, 1), 3,
        {
            (0, 0): ((0, (1,)), (0, (2,)), (0, (1, 2))),
            (0, 1): ((2, ()), (1, (2,)), (0, (1,))),
            (0, 2): ((2, (0, 0)), (2, (1,)), (2, (2, 1))),
            (1, 0): ((1, (1, 1)), (1, (2, 2)), (0, (1, 0))),
            (1, 1): ((0, (0, 0)), (0, ()), (1, (1, 0))),
            (1, 2): ((1, (0,)), (1, ()), (1, (2,))),
            (2, 0): ((1, ()), (2, (2, 2)), (0, (1, 0))),
            (2, 1): ((0, (1, 2)), (0, ()), (1, (2,))),
            (2, 2): ((2, (2, 1)), (2, (0, 2)), (2, (2,))),
        },
    ),
    (
        (1, 1, 0), (0, 2, 1), (1, 1, 1), 3,
        {
            (0, 0): ((1, (2, 2)), (1, ())),
            (0, 1): ((0, (0,)), (1, (1,)), (0, (2, 0))),
            (0, 2): ((0, (1,)), (1, (2, 1)), (1, (1, 0))),
            (1, 0): ((0, (2,)), (1, (1,)), (1, (0,))),
            (1, 1): ((1, (0, 0)), (2, (2,)), (1, (0, 1))),
            (1, 2): ((2, ()), (1, (2, 1)), (1, (2,))),
            (2, 0): ((2, (2, 2)), (2, (2, 1)), (2, (0,))),
            (2, 1): ((1, (1,)), (0, ()), (1, (0,))),
            (2, 2): ((1, (2, 0)), (1, ()), (1, (0,))),
        },
    ),
    (
        (1, 1, 0), (0, 1, 2), (1, 0, 1), 3,
        {
            (0, 0): ((2, (2, 1)), (0, (2, 0)), (2, (0,))),
            (0, 1): ((0, ()), (2, (0,)), (0, (1,))),
            (0, 2): ((0, (1,)), (1, ()), (2, (2,))),
            (1, 0): ((1, (1, 2)), (1, (1, 0)), (2, (0,))),
            (1, 1): ((2, (1,)), (2, ()), (2, (1, 0))),
            (1, 2): ((1, (0,)), (0, (2, 0)), (0, ())),
            (2, 0): ((2, (2, 1)), (1, (1, 2)), (1, (1, 0))),
            (2, 1): ((2, (0, 0)), (0, (2,)), (2, (0, 2))),
            (2, 2): ((1, (2, 1)), (1, ()), (1, (2, 2))),
        },
    ),
    (
        (0, 1, 1), (2, 0, 1), (0, 0, 0), 3,
        {
            (0, 0): ((1, (0, 1)), (2, (0, 2)), (0, (2, 0))),
            (0, 1): ((2, (2, 2)), (2, (0, 0)), (2, (0,))),
            (0, 2): ((0, (1,)), (1, ()), (2, (1,))),
            (1, 0): ((1, (2, 1)), (0, ()), (0, (2,))),
            (1, 1): ((0, (0, 0)), (1, (1, 1)), (1, (1,))),
            (1, 2): ((2, ()), (0, (0, 2))),
            (2, 0): ((1, (2,)), (2, (1,)), (1, (0, 1))),
            (2, 1): ((2, (2, 1)), (1, (2, 0)), (1, (1, 0))),
            (2, 2): ((0, ()), (1, (1,)), (0, (0,))),
        },
    ),
)


def slow():
    """The duels whose families take the most steps."""
    return [Duel(*told) for told in SLOW]
