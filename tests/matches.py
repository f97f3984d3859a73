"""A duel for matches played by hand, and what is asked of them again and again."""

import unittest

from towerduel.duels import Duel
from towerduel.errors import MatchError

# In state 0 side 0 moves, and with letter 0 it has moves of all kinds; with letter 2 it has none.
DUEL = Duel(
    (0, 1), (0, 2), (0, 1), 3,
    {
        (0, 0): ((0, ()), (1, (1,)), (0, (1, 2))),
        (0, 1): ((1, ()),),
        (1, 0): ((0, (1, 2)), (1, ())),
        (1, 1): ((0, ()), (1, (2,))),
    },
)


def all_of(match):
    """All that a match tells."""
    return match.position(), match.turn(), match.won(), match.moves(), match.journal()


class MatchCase(unittest.TestCase):
    def refused(self, why, method, *told):
        """Checks that a method of a match, or of a player, raises a MatchError."""
        with self.assertRaises(MatchError) as caught:
            method(*told)
        self.assertEqual(caught.exception.why, why)

    def refused_and_nothing_changed(self, why, match, method, *told):
        before = all_of(match)
        self.refused(why, method, *told)
        self.assertEqual(all_of(match), before)

    def stands_at(self, match, position, turn, won, moves):
        self.assertEqual((match.position(), match.turn(), match.won(), match.moves()), (position, turn, won, moves))
