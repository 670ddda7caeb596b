"""Points 1 and 2."""

import random
import unittest

from judges import EMPTY, FULL, ODD_VALUES, PROJECTIVE, RING, TORUS, Judge, closed
from shapeholes.complexes import Complex, counts_of, euler_of, simplices_of, vertices_of
from shapeholes.errors import BadSimplices, NotComplex, TooMany

# 255 + 127 + 15 + 3 faces.
FOUR_HUNDRED = (tuple(range(8)), tuple(range(8, 15)), tuple(range(15, 19)), (19, 20))


def some_simplices(seed):
    source = random.Random(seed)
    return tuple(tuple(sorted(source.sample(range(31), source.randint(1, 5)))) for _ in range(source.randint(0, 9)))


class Making(Judge, unittest.TestCase):
    def test_example(self):
        shape = Complex(((0, 1, 2), (2, 3)))
        self.assertEqual(
            [simplices_of(shape), shape.facets, counts_of(shape), euler_of(shape)],
            [[(0,), (1,), (2,), (3,), (0, 1), (0, 2), (1, 2), (2, 3), (0, 1, 2)], ((0, 1, 2), (2, 3)), (4, 4, 1), 0])

    def test_all_faces(self):
        for seed in range(60):
            given = some_simplices(seed)
            shape = Complex(given)
            faces = closed(given)
            self.assertEqual(simplices_of(shape), sorted(faces, key=lambda face: (len(face), face)))
            facets = [face for face in faces if not any(set(face) < set(other) for other in faces)]
            self.assertEqual(shape.facets, tuple(sorted(facets)))
            self.assertEqual(vertices_of(shape), tuple(sorted({vertex for face in faces for vertex in face})))

    def test_facets_are_ordered_as_tuples(self):
        self.assertEqual(Complex(((4,), (2, 3), (0, 1, 5), (0, 2))).facets, ((0, 1, 5), (0, 2), (2, 3), (4,)))

    def test_given_twice_or_as_faces(self):
        self.assertEqual(Complex(((0, 1), (0,), (0, 1), (1,))).facets, ((0, 1),))

    def test_empty(self):
        self.assertEqual([EMPTY.facets, simplices_of(EMPTY), vertices_of(EMPTY), counts_of(EMPTY), euler_of(EMPTY)],
                         [(), [], (), (), -1])

    def test_edges_of_limits(self):
        shape = Complex(((0,), (30,), (0, 30)))
        self.assertEqual([vertices_of(shape), counts_of(shape)], [(0, 30), (2, 1)])
        self.assertEqual(counts_of(FULL), (8, 28, 56, 70, 56, 28, 8, 1))
        self.assertEqual(sum(counts_of(Complex(FOUR_HUNDRED))), 400)
        self.assertEqual(Complex(((3,),) * 400).facets, ((3,),))

    def test_not_a_tuple_of_at_most_400(self):
        for value in (None, 3, True, "ab", [], [(0,)], {}, RING, ((0,),) * 401, ("x",) * 401):
            self.assert_raises(BadSimplices(None), Complex, value)

    def test_first_item_that_is_no_simplex(self):
        for value in ODD_VALUES:
            if value == (0,):
                continue
            self.assert_raises(BadSimplices(1), Complex, ((0, 1), value, "x"))
        for value in ((), (0, 31), (-1, 0), (1, 0), (0, 0), (0, 1, 1), (False, 1), (0, True), (0, None), [0, 1],
                      tuple(range(9)), RING, "01", ((0,), (1,))):
            self.assert_raises(BadSimplices(0), Complex, (value,))
        self.assert_raises(BadSimplices(399), Complex, ((0,),) * 399 + ((),))

    def test_too_many(self):
        self.assert_raises(TooMany(400), Complex, FOUR_HUNDRED + ((21,),))
        self.assert_raises(TooMany(400), Complex, (tuple(range(8)), tuple(range(8, 16))))
        self.assert_raises(BadSimplices(2), Complex, (tuple(range(8)), tuple(range(8, 16)), ()))


class Asking(Judge, unittest.TestCase):
    def test_equal(self):
        self.assertEqual(Complex(((0, 1), (2,))), Complex(((2,), (1,), (0, 1))))
        self.assertFalse(Complex(((0, 1), (2,))) != Complex(((2,), (1,), (0, 1))))
        self.assertNotEqual(Complex(((0, 1),)), Complex(((0,), (1,))))
        self.assertNotEqual(EMPTY, Complex(((0,),)))
        for value in ODD_VALUES + ((), ((0, 1),)):
            self.assertFalse(Complex(((0, 1),)) == value)
            self.assertTrue(EMPTY != value)

    def test_in(self):
        for simplex in ((0,), (1,), (2,), (0, 1), (0, 2), (1, 2)):
            self.assertIs(simplex in RING, True)
        for value in ODD_VALUES + ((), (3,), (0, 1, 2), (1, 0), (False,), (0, True), [0, 1], "0", RING, 0):
            self.assertIs(value in RING, False)
        self.assertIs((0,) in EMPTY, False)
        self.assertIs(() in EMPTY, False)

    def test_counts(self):
        self.assertEqual([counts_of(TORUS), euler_of(TORUS)], [(7, 21, 14), -1])
        self.assertEqual([counts_of(PROJECTIVE), euler_of(PROJECTIVE)], [(6, 15, 10), 0])
        self.assertEqual([euler_of(FULL), euler_of(RING), euler_of(Complex(((0,), (1,))))], [0, -1, 1])
        self.assertIsInstance(vertices_of(RING), tuple)

    def test_lists_are_new(self):
        simplices_of(RING).clear()
        self.assertEqual(len(simplices_of(RING)), 6)
        self.assertEqual(RING.facets, ((0, 1), (0, 2), (1, 2)))

    def test_facets_cannot_be_assigned(self):
        with self.assertRaises(AttributeError):
            RING.facets = ()

    def test_no_complex(self):
        for call in (simplices_of, vertices_of, counts_of, euler_of):
            for value in ODD_VALUES + ((), ((0, 1),), Complex):
                self.assert_raises(NotComplex(), call, value)


if __name__ == "__main__":
    unittest.main()
