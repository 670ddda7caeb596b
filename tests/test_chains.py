"""Point 8."""

import random
import unittest
from itertools import combinations

from judges import (
    EMPTY, FULL, KLEIN, ODD_VALUES, PROJECTIVE, RING, TORUS, Judge, border, border_of_chain, is_chain, product)
from shapeholes.chains import boundary, boundary_rows
from shapeholes.complexes import Complex, simplices_of
from shapeholes.errors import BadChain, BadDegree, NotComplex


def some_chain(seed, degree):
    source = random.Random(seed)
    chosen = {tuple(sorted(source.sample(range(9), degree + 1))) for _ in range(source.randint(0, 12))}
    return tuple((simplex, source.choice([-10 ** 20, -3, -1, 1, 2, 7])) for simplex in sorted(chosen))


class Boundary(Judge, unittest.TestCase):
    def test_of_one_simplex(self):
        self.assertEqual(boundary((((0, 1, 2), 1),)), (((0, 1), 1), ((0, 2), -1), ((1, 2), 1)))
        self.assertEqual(boundary((((4, 9), -3),)), (((4,), 3), ((9,), -3)))
        for length in range(1, 9):
            simplex = tuple(range(30 - length, 30))
            self.assertEqual(dict(boundary(((simplex, 1),))), dict(border(simplex)))

    def test_of_points_and_nothing(self):
        self.assertEqual(boundary((((3,), 5),)), (((), 5),))
        self.assertEqual(boundary((((0,), 5), ((30,), -2))), (((), 3),))
        self.assertEqual(boundary((((0,), 5), ((30,), -5))), ())
        self.assertEqual(boundary((((), 5),)), ())
        self.assertEqual(boundary(()), ())

    def test_sums(self):
        for seed in range(80):
            chain = some_chain(seed, seed % 7)
            found = boundary(chain)
            self.assertTrue(is_chain(found))
            self.assertEqual(dict(found), border_of_chain(chain))
            self.assertEqual(boundary(found), ())

    def test_four_hundred_items(self):
        edges = list(combinations(range(31), 2))[:401]
        self.assertEqual(boundary(tuple((edge, 1) for edge in edges[:400])),
                         tuple(sorted(border_of_chain([(edge, 1) for edge in edges[:400]]).items())))
        self.assert_raises(BadChain(None), boundary, tuple((edge, 1) for edge in edges))

    def test_more_items_than_a_chain_has(self):
        big = tuple((simplex, 1) for simplex in list(combinations(range(13), 8))[::4])
        self.assertGreater(len(boundary(big)), 400)

    def test_no_tuple(self):
        for value in (None, True, 3, "", "ab", [], [((0,), 1)], {}, RING, ((),) * 401):
            self.assert_raises(BadChain(None), boundary, value)

    def test_bad_items(self):
        good = ((0, 1), 1)
        for item in (None, (), 3, "ab", [(0, 2), 1], ((0, 2),), ((0, 2), 1, 1), ((0, 2), 0), ((0, 2), True),
                     ((0, 2), "1"), ((0, 2), None), ((0, 2), (1,)), ([0, 2], 1), ((2, 0), 1), ((0, 31), 1),
                     ((0, True), 1), ((2, 2), 1), (None, 1), ("", 1), ([], 1), ({}, 1), (0, 1), (RING, 1), ((0, 2), RING),
                     ((2,), 1), ((0, 2, 3), 1), ((), 1), ((0, 1), 1), ((0, 1), 2), (tuple(range(9)), 1), RING):
            self.assert_raises(BadChain(1), boundary, (good, item, None))
        for item in (None, 3, ((0, 2), 0), ((0, 2), False), ((), 0), ([], 1), ((-1,), 1), (tuple(range(9)), 1)):
            self.assert_raises(BadChain(0), boundary, (item,))
        self.assert_raises(BadChain(2), boundary, (((0, 1), 1), ((1, 2), 1), ((0, 2), 1)))
        self.assert_raises(BadChain(1), boundary, (((), 1), ((), 1)))
        self.assert_raises(BadChain(1), boundary, (((), 1), ((0,), 1)))


class Rows(Judge, unittest.TestCase):
    def test_entries(self):
        for shape in (EMPTY, RING, TORUS, PROJECTIVE, KLEIN, FULL, Complex(((0, 1, 2), (2, 30), (4,)))):
            for degree in range(8):
                below = [face for face in simplices_of(shape) if len(face) == degree] if degree else [()]
                columns = [simplex for simplex in simplices_of(shape) if len(simplex) == degree + 1]
                entries = tuple(tuple(dict(border(simplex)).get(face, 0) for simplex in columns) for face in below)
                self.assertEqual(boundary_rows(shape, degree), entries)

    def test_some(self):
        self.assertEqual(boundary_rows(RING, 1), ((-1, -1, 0), (1, 0, -1), (0, 1, 1)))
        self.assertEqual(boundary_rows(RING, 0), ((1, 1, 1),))
        self.assertEqual(boundary_rows(RING, 2), ((), (), ()))
        self.assertEqual(boundary_rows(RING, 3), ())
        self.assertEqual(boundary_rows(EMPTY, 0), ((),))
        self.assertEqual(boundary_rows(EMPTY, 1), ())
        self.assertEqual(boundary_rows(FULL, 7), tuple(((-1) ** (7 - k),) for k in range(8)))

    def test_two_boundaries_are_nothing(self):
        for shape in (TORUS, PROJECTIVE, FULL):
            for degree in range(1, 8):
                one, other = boundary_rows(shape, degree - 1), boundary_rows(shape, degree)
                if other:
                    self.assertFalse(any(any(row) for row in product(one, other, len(other[0]))))

    def test_errors(self):
        for value in (-1, 8, True, False, None, "0", (0,), [], RING, 10 ** 30):
            self.assert_raises(BadDegree(), boundary_rows, RING, value)
        for value in ODD_VALUES + ((),):
            self.assert_raises(NotComplex(), boundary_rows, value, -1)


if __name__ == "__main__":
    unittest.main()
