import unittest

from tests.referee import claims_over
from towerduel.families import lowered

PAIRS = [(state, rank) for state in range(3) for rank in range(3)]
CLAIMS = [tuple(sorted(claim)) for claim in claims_over(PAIRS)]


class TestLowered(unittest.TestCase):
    def test_by_hand(self):
        claim = ((0, 0), (0, 2), (1, 1), (1, 2), (2, 2))
        self.assertEqual(lowered(claim, 0), ((0, 0), (1, 0), (2, 0)))
        self.assertEqual(lowered(claim, 1), ((0, 0), (0, 1), (1, 1), (2, 1)))
        self.assertEqual(lowered(claim, 2), claim)
        self.assertEqual([lowered((), rank) for rank in range(3)], [(), (), ()])

    def test_all_claims(self):
        self.assertEqual(len(CLAIMS), 512)
        for claim in CLAIMS:
            for rank in range(3):
                told = lowered(claim, rank)
                self.assertIs(type(told), tuple)
                self.assertTrue(all(one < other for one, other in zip(told, told[1:])))
                self.assertEqual(set(told), {(state, min(own, rank)) for state, own in claim})

    def test_twice(self):
        for claim in CLAIMS:
            for one in range(3):
                for other in range(3):
                    self.assertEqual(lowered(lowered(claim, one), other), lowered(claim, min(one, other)))


if __name__ == "__main__":
    unittest.main()
