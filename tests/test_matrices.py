"""Point 9."""

import random
import unittest
from itertools import product as all_of

from judges import EMPTY, PROJECTIVE, RING, Judge, determinant, moore, product
from shapeholes.chains import boundary_rows
from shapeholes.errors import BadMatrix, BadPrime
from shapeholes.fields import rank_mod
from shapeholes.smith import smith

NO_MATRICES = (
    None, True, 0, "", "12", [], [(1, 2)], {}, RING, EMPTY, (None,), (1, 2), ([1, 2],), ((1, 2), [1, 2]), ("12",),
    ((1, 2), (1,)), ((1,), (1, 2)), ((), (1,)), ((1,), ()), ((1, True),), ((False,),), ((None,),), (("1",),),
    (((1,),),), (([],),), ((1, 2), (3, RING)), ((0,) * 401,), ((0,),) * 401, ((),) * 401, (RING,))


def some_rows(seed, height, width, most):
    source = random.Random(seed)
    return tuple(tuple(source.randint(-most, most) for _ in range(width)) for _ in range(height))


def of_low_rank(seed, height, width, rank):
    return product(some_rows(seed, height, rank, 5), some_rows(seed + 1, rank, width, 5), width)


class Smith(Judge, unittest.TestCase):
    def judge(self, rows):
        width = len(rows[0]) if rows else 0
        found = smith(rows)
        self.assertIsInstance(found, tuple)
        left, middle, right = found
        for square, size in ((left, len(rows)), (right, width)):
            self.assertIsInstance(square, tuple)
            self.assertEqual([len(row) for row in square], [size] * size)
            self.assertTrue(all(isinstance(row, tuple) for row in square))
            self.assertTrue(all(type(number) is int for row in square for number in row))
            self.assertIn(determinant(square), (1, -1))
        self.assertEqual(product(product(left, rows, width), right, width), middle)
        for k, row in enumerate(middle):
            self.assertFalse(any(row[:k] + row[k + 1:]))
        diagonal = [middle[k][k] for k in range(min(len(rows), width))]
        for one, other in zip(diagonal, diagonal[1:]):
            self.assertTrue(other % one == 0 if one else other == 0)
        self.assertTrue(all(number >= 0 for number in diagonal))
        return diagonal

    def test_known_ones(self):
        self.assertEqual(self.judge(((2, 4, 4), (-6, 6, 12), (10, 4, 16))), [2, 2, 156])
        self.assertEqual(self.judge(((2, 0), (0, 3))), [1, 6])
        self.assertEqual(self.judge(((3, 0), (0, 2))), [1, 6])
        self.assertEqual(self.judge(((0, 0), (0, -4))), [4, 0])
        self.assertEqual(self.judge(((-5,),)), [5])
        self.assertEqual(self.judge(((6, 0, 0), (0, 10, 0), (0, 0, 15))), [1, 30, 30])
        self.assertEqual(self.judge(((4, 6),)), [2])
        self.assertEqual(self.judge(((4,), (6,))), [2])
        self.assertEqual(self.judge(((0, 0, 0), (0, 0, 0))), [0, 0])
        self.assertEqual(self.judge(((0, 2, 0), (0, 0, 0), (0, 0, 2))), [2, 2, 0])

    def test_no_rows_or_columns(self):
        self.assertEqual(smith(()), ((), (), ()))
        left, middle, right = smith(((), ()))
        self.assertEqual((middle, right), (((), ()), ()))
        self.assertIn(determinant(left), (1, -1))
        self.assertEqual(self.judge(((),) * 5), [])

    def test_random_ones(self):
        for seed in range(60):
            source = random.Random(seed)
            self.judge(some_rows(seed, source.randint(1, 7), source.randint(1, 7), source.choice([1, 3, 9, 10 ** 25])))

    def test_low_rank(self):
        for seed in range(20):
            diagonal = self.judge(of_low_rank(seed, 6, 5, 2))
            self.assertEqual(diagonal[2:], [0, 0, 0])

    def test_diagonals(self):
        for numbers in all_of((0, 1, -2, 3, 4, -6), repeat=3):
            rows = tuple(tuple(numbers[k] if k == m else 0 for m in range(3)) for k in range(3))
            diagonal = self.judge(rows)
            self.assertEqual(diagonal.count(0), numbers.count(0))
            if 0 not in numbers:
                self.assertEqual(diagonal[0] * diagonal[1] * diagonal[2], abs(numbers[0] * numbers[1] * numbers[2]))

    def test_larger_ones(self):
        self.judge(some_rows(1, 20, 20, 9))
        self.judge(some_rows(2, 12, 25, 9))
        self.judge(some_rows(3, 25, 12, 9))

    def test_boundaries(self):
        self.assertEqual(self.judge(boundary_rows(PROJECTIVE, 2)), [1] * 9 + [2])
        self.assertEqual(self.judge(boundary_rows(moore(3), 2))[-1], 3)
        self.assertEqual(self.judge(boundary_rows(RING, 1)), [1, 1, 0])

    def test_limits(self):
        self.assertEqual(smith(((3,) + (0,) * 399,))[1], ((3,) + (0,) * 399,))
        self.assertEqual(smith(((0,),) * 399 + ((-3,),))[1], ((3,),) + ((0,),) * 399)
        self.assertEqual(len(smith(((),) * 400)[0]), 400)

    def test_no_matrix(self):
        for value in NO_MATRICES:
            self.assert_raises(BadMatrix(), smith, value)


class RankMod(Judge, unittest.TestCase):
    def judge(self, rows, prime):
        """A space of this rank has prime ** rank sums of multiples of the rows."""
        width = len(rows[0])
        sums = {tuple(sum(factor * row[k] for factor, row in zip(factors, rows)) % prime for k in range(width))
                for factors in all_of(range(prime), repeat=len(rows))}
        self.assertEqual(prime ** rank_mod(rows, prime), len(sums))

    def test_random_ones(self):
        for prime in (2, 3, 5, 7):
            for seed in range(12):
                self.judge(some_rows(seed, 3, 5, 10 ** 30 if seed % 2 else 3), prime)
                self.judge(some_rows(seed, 4, 2, 2), prime)
                self.judge(of_low_rank(seed, 4, 4, 2), prime)

    def test_some(self):
        self.assertEqual([rank_mod(((6, 0), (0, 35)), prime) for prime in (2, 3, 5, 7)], [1, 1, 1, 1])
        self.assertEqual([rank_mod(((-1, 1), (1, 1)), prime) for prime in (2, 3, 5, 7)], [1, 2, 2, 2])
        self.assertEqual([rank_mod(boundary_rows(PROJECTIVE, 2), prime) for prime in (2, 3, 5, 7)], [9, 10, 10, 10])
        self.assertEqual(rank_mod(((0, 0, 1), (0, 1, 0), (1, 0, 0)), 7), 3)
        self.assertEqual(rank_mod((), 2), 0)
        self.assertEqual(rank_mod(((), ()), 7), 0)
        self.assertEqual(rank_mod(((0, 0),), 3), 0)
        self.assertEqual(rank_mod(((1,) * 400,) * 400, 3), 1)
        self.assertIs(type(rank_mod(((1,),), 2)), int)

    def test_with_smith(self):
        for seed in range(10):
            rows = some_rows(seed, 8, 9, 3)
            diagonal = [smith(rows)[1][k][k] for k in range(8)]
            for prime in (2, 3, 5, 7):
                self.assertEqual(rank_mod(rows, prime), sum(number % prime != 0 for number in diagonal))

    def test_errors(self):
        for value in NO_MATRICES:
            self.assert_raises(BadMatrix(), rank_mod, value, 4)
        for value in (0, 1, 4, 6, 8, 9, 11, -2, 13, True, False, None, "2", (2,), [], RING, 2 ** 61 - 1):
            self.assert_raises(BadPrime(), rank_mod, ((1, 2),), value)
            self.assert_raises(BadPrime(), rank_mod, (), value)


if __name__ == "__main__":
    unittest.main()
