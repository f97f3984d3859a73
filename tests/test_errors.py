import unittest

from towerduel.errors import DuelError, MatchError, NotationError, ShapeError, WorkshopError

MADE = (
    (ShapeError, "part", ("states", "letters", "moves")),
    (NotationError, "line", (1, 2, 17)),
    (MatchError, "why", ("over", "move", "lost")),
    (WorkshopError, "why", ("nothing to undo", "nothing to make again")),
)


class TestErrors(unittest.TestCase):
    def test_field(self):
        for kind, field, given in MADE:
            for told in given:
                self.assertEqual(getattr(kind(told), field), told)

    def test_raised_and_caught(self):
        for kind, field, given in MADE:
            for above in (kind, DuelError, ValueError):
                with self.assertRaises(above) as caught:
                    raise kind(given[0])
                self.assertEqual(getattr(caught.exception, field), given[0])

    def test_none_of_its_sisters(self):
        for kind, _, given in MADE:
            error = kind(given[0])
            sisters = [other for other, _, _ in MADE if isinstance(error, other)]
            self.assertEqual(sisters, [kind])

    def test_duel_error_is_above_and_below(self):
        self.assertTrue(issubclass(DuelError, ValueError))
        for kind, _, _ in MADE:
            self.assertFalse(issubclass(DuelError, kind))
            self.assertTrue(str(kind("over")))


if __name__ == "__main__":
    unittest.main()
