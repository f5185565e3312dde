import itertools
import random
import unittest

from sealround.digests import Mixing, digest, is_clash
from tests.plain import PRIME, plain_digest

WIDE = 2 ** 64


class MixingTest(unittest.TestCase):
    def test_fields(self):
        mixing = Mixing(2, PRIME - 1)
        self.assertEqual(vars(mixing), {"bound": 2, "factor": PRIME - 1})
        mixing = Mixing(factor=3, bound=WIDE)
        self.assertEqual((mixing.bound, mixing.factor), (WIDE, 3))


class DigestByHandTest(unittest.TestCase):
    def test_empty_row(self):
        # State 1, for the length 1 * 2 + 0 + 1 = 3.
        self.assertEqual(digest(Mixing(WIDE, 2), ()), 3 * 48271)
        self.assertEqual(digest(Mixing(WIDE, 2), ()), 144813)

    def test_one_number(self):
        # State 1, for the length 1 * 2 + 1 + 1 = 4, for the number 4 * 2 + 5 + 1 = 14.
        self.assertEqual(digest(Mixing(WIDE, 2), (5,)), 675794)

    def test_two_numbers(self):
        # State 1, then 10 + 2 + 1 = 13, then 130 + 7 + 1 = 138, then 1380 + 4 + 1 = 1385.
        self.assertEqual(digest(Mixing(WIDE, 10), (7, 4)), 1385 * 48271)

    def test_a_state_above_65535_adds_its_upper_part(self):
        # State 1, for the length 65536 + 0 + 1 = 65537, the upper part of which is 1.
        self.assertEqual(digest(Mixing(WIDE, 65536), ()), 3163536528)
        # One less stays below: there is no upper part.
        self.assertEqual(digest(Mixing(WIDE, 65534), ()), 65535 * 48271)
        self.assertEqual(digest(Mixing(WIDE, 65535), ()), 65536 * 48271 + 1)

    def test_the_state_is_taken_modulo_the_prime(self):
        # State 1, for the length 1 * (P - 1) + 0 + 1 = P, which is 0.
        self.assertEqual(digest(Mixing(WIDE, PRIME - 1), ()), 0)
        # State 1, for the length (P - 1) + 1 + 1 = P + 1, which is 1, for the number P, 0.
        self.assertEqual(digest(Mixing(WIDE, PRIME - 1), (0,)), 0)
        # One more for the number: 1.
        self.assertEqual(digest(Mixing(WIDE, PRIME - 1), (1,)), 48271)

    def test_small_bounds_take_what_is_left(self):
        self.assertEqual(digest(Mixing(2, 2), ()), 1)
        self.assertEqual(digest(Mixing(2, 2), (5,)), 0)
        self.assertEqual(digest(Mixing(1000, 2), (5,)), 794)

    def test_the_bound_itself_is_no_digest(self):
        self.assertEqual(digest(Mixing(144813, 2), ()), 0)
        self.assertEqual(digest(Mixing(144812, 2), ()), 1)
        self.assertEqual(digest(Mixing(144814, 2), ()), 144813)


class SecondComputationTest(unittest.TestCase):
    BOUNDS = (2, 3, 10, 65536, 2 ** 61 - 1, WIDE, 2 ** 200)
    FACTORS = (2, 3, 48271, 65536, 2 ** 40 + 15, PRIME - 2, PRIME - 1)

    def check(self, row):
        for bound in self.BOUNDS:
            for factor in self.FACTORS:
                found = digest(Mixing(bound, factor), row)
                self.assertEqual(found, plain_digest(bound, factor, row), (bound, factor, row))
                self.assertIn(found, range(bound))

    def test_short_rows(self):
        for length in range(4):
            for row in itertools.product((0, 1, 2, 9), repeat=length):
                self.check(row)

    def test_great_numbers(self):
        edges = (PRIME - 2, PRIME - 1, PRIME, PRIME + 1, WIDE - 1, WIDE, WIDE + 1)
        for number in edges + (2 ** 128, 2 ** 1000 + 1, 10 ** 3000 + 7):
            self.check((number,))
            self.check((4, number, 0))
            self.check((number, number, 1))

    def test_any_rows(self):
        chance = random.Random(1)
        for _ in range(60):
            sizes = [chance.choice((1, 4, 60, 64, 300)) for _ in range(chance.randrange(12))]
            self.check(tuple(chance.getrandbits(size) for size in sizes))

    def test_a_long_row(self):
        row = tuple(range(2000))
        self.assertEqual(digest(Mixing(WIDE, 12345), row), plain_digest(WIDE, 12345, row))

    def test_rows_that_begin_alike(self):
        mixing = Mixing(WIDE, 1234567)
        rows = [(), (0,), (0, 0), (0, 0, 0), (1,), (1, 0), (1, 2), (1, 2, 0), (1, 2, 3), (1, 2, 3, 0)]
        found = [digest(mixing, row) for row in rows]
        self.assertEqual(found, [plain_digest(WIDE, 1234567, row) for row in rows])
        self.assertEqual(len(set(found)), len(rows))


class ClashTest(unittest.TestCase):
    def test_all_pairs_of_short_rows(self):
        rows = [row for length in range(4) for row in itertools.product(range(3), repeat=length)]
        for bound in (2, 3, 7):
            mixing = Mixing(bound, 5)
            found = {row: plain_digest(bound, 5, row) for row in rows}
            for one in rows:
                for two in rows:
                    expected = one != two and found[one] == found[two]
                    self.assertIs(is_clash(mixing, one, two), expected, (bound, one, two))

    def test_by_hand(self):
        # Under the bound 2 the digest of () is odd; that of (5,) is even, that of (4,) odd.
        mixing = Mixing(2, 2)
        self.assertIs(is_clash(mixing, (), (4,)), True)
        self.assertIs(is_clash(mixing, (4,), ()), True)
        self.assertIs(is_clash(mixing, (), (5,)), False)
        self.assertIs(is_clash(mixing, (4,), (5,)), False)

    def test_equal_rows_never_clash(self):
        for bound in (2, WIDE):
            for row in ((), (0,), (1, 2, 3), (2 ** 100,)):
                again = tuple(list(row))
                self.assertIs(is_clash(Mixing(bound, 3), row, row), False)
                self.assertIs(is_clash(Mixing(bound, 3), row, again), False)

    def test_numbers_that_differ_by_the_prime_clash_under_every_bound(self):
        for bound in (2, WIDE, 2 ** 200):
            self.assertIs(is_clash(Mixing(bound, 3), (1, 5), (1, 5 + PRIME)), True)
            self.assertIs(is_clash(Mixing(bound, 3), (PRIME,), (0,)), True)


if __name__ == "__main__":
    unittest.main()
