"""Points 23 and 24."""

import random
import unittest
from itertools import combinations, permutations

from judges import EMPTY, FULL, ODD_VALUES, PROJECTIVE, RING, TORUS, Judge
from shapeholes.complexes import Complex
from shapeholes.counts import h_numbers
from shapeholes.errors import NotComplex, NotPure, NotShelling, TooMany
from shapeholes.parts import join, skeleton, union
from shapeholes.shellings import is_pure, is_shelling, restrictions, shelling

POINT = Complex(((30,),))
MIXED = Complex(((0, 1, 2), (2, 3)))
OCTAHEDRON = Complex(tuple((a, b, c) for a in (0, 1) for b in (2, 3) for c in (4, 5)))
# Two triangles with one common vertex, and two edges without any.
BOW = Complex(((0, 1, 2), (2, 3, 4)))
APART = Complex(((0, 1), (2, 3)))


def pure_shape(seed, most=7):
    source = random.Random(seed)
    length = source.randint(1, 4)
    choices = list(combinations(range(most), length))
    return Complex(tuple(source.sample(choices, min(len(choices), source.randint(1, 7)))))


SHAPES = [pure_shape(seed, 4 + seed % 3) for seed in range(120)] + [
    EMPTY, POINT, RING, BOW, APART, OCTAHEDRON, PROJECTIVE, FULL, skeleton(FULL, 6), Complex(((0,), (5,), (30,)))]


def shelling_by_definition(order):
    """Whether the meet of each facet with one ahead lies in a meet that has all its vertices but one."""
    for k, facet in enumerate(order):
        meets = [set(facet) & set(other) for other in order[:k]]
        if not all(any(len(great) == len(facet) - 1 and meet <= great for great in meets) for meet in meets):
            return False
    return True


def has_shelling(facets):
    """By going through all sets of facets that some beginning of a shelling has."""
    reached = {0}
    for mask in range(1 << len(facets)):
        if mask in reached:
            ahead = [facets[k] for k in range(len(facets)) if mask >> k & 1]
            for k, facet in enumerate(facets):
                meets = [set(facet) & set(other) for other in ahead]
                if not mask >> k & 1 and all(
                        any(len(great) == len(facet) - 1 and meet <= great for great in meets) for meet in meets):
                    reached.add(mask | 1 << k)
    return (1 << len(facets)) - 1 in reached


class Pure(Judge, unittest.TestCase):
    def test_pure(self):
        for shape in SHAPES + [TORUS]:
            self.assertIs(is_pure(shape), True)
        for shape in (MIXED, Complex(((0,), (1, 2))), union(FULL, POINT), union(TORUS, Complex(((0, 8),)))):
            self.assertIs(is_pure(shape), False)

    def test_errors(self):
        for value in ODD_VALUES:
            self.assert_raises(NotComplex(), is_pure, value)
            self.assert_raises(NotComplex(), shelling, value)
            self.assert_raises(NotComplex(), is_shelling, value, None)
            self.assert_raises(NotComplex(), restrictions, value, None)
        for shape in (MIXED, union(skeleton(FULL, 1), POINT)):
            self.assert_raises(NotPure(), shelling, shape)
            self.assert_raises(NotPure(), is_shelling, shape, None)
            self.assert_raises(NotPure(), is_shelling, shape, shape.facets)
            self.assert_raises(NotPure(), restrictions, shape, None)


class IsShelling(Judge, unittest.TestCase):
    def test_all_orders(self):
        answers = []
        for shape in SHAPES:
            if len(shape.facets) <= 5:
                for order in permutations(shape.facets):
                    answers.append(shelling_by_definition(order))
                    self.assertIs(is_shelling(shape, order), answers[-1], order)
        self.assertGreater(answers.count(True), 100)
        self.assertGreater(answers.count(False), 100)

    def test_some_orders(self):
        for seed, shape in enumerate(SHAPES + [TORUS, skeleton(FULL, 3)]):
            for turn in range(5):
                order = random.Random(5 * seed + turn).sample(shape.facets, len(shape.facets))
                self.assertIs(is_shelling(shape, tuple(order)), shelling_by_definition(order))

    def test_known_ones(self):
        for shape in (EMPTY, POINT, FULL, skeleton(FULL, 0), skeleton(FULL, 3), skeleton(FULL, 6)):
            self.assertTrue(is_shelling(shape, shape.facets))
            self.assertTrue(is_shelling(shape, shape.facets[::-1]))
        self.assertTrue(is_shelling(RING, ((0, 1), (1, 2), (0, 2))))
        path = Complex(((0, 1), (1, 2), (2, 3)))
        self.assertTrue(is_shelling(path, ((1, 2), (0, 1), (2, 3))))
        self.assertFalse(is_shelling(path, ((0, 1), (2, 3), (1, 2))))
        self.assertFalse(is_shelling(BOW, BOW.facets))
        self.assertFalse(is_shelling(TORUS, TORUS.facets))
        # More than 12 facets are no error here.
        points = Complex(tuple((k,) for k in range(31)))
        self.assertTrue(is_shelling(points, points.facets))

    def test_of_any_value(self):
        for value in ODD_VALUES + (RING, [], [(0, 1), (0, 2), (1, 2)], ((0, 1), (0, 2)), ((0, 1), (0, 2), (0, 2)),
                                   ((0, 1), (0, 2), (1, 2), (1, 2)), ((0, 1), (0, 2), (2, 1)), ((0, 1), (0, 2), [1, 2]),
                                   ((0, 1), (0, 2), (True, 2)), ((0, 1), (0, 2), (1, 3)), ((0, 1), (0, 2), (1,)),
                                   ((0, 1), (0, 2), None), ((0, 1), (0, 2), 3), ((0, 1), (0, 2), (0, 1, 2))):
            self.assertIs(is_shelling(RING, value), False)
            self.assertIs(is_shelling(EMPTY, value), False)
        self.assertIs(is_shelling(EMPTY, ()), True)
        self.assertIs(is_shelling(RING, ()), False)
        self.assertIs(is_shelling(POINT, ((30,),)), True)


class Shellings(Judge, unittest.TestCase):
    def judge(self, shape):
        found = shelling(shape)
        if found is None:
            self.assertFalse(has_shelling(shape.facets))
            return False
        self.assertIsInstance(found, tuple)
        self.assertEqual(tuple(sorted(found)), shape.facets)
        self.assertTrue(shelling_by_definition(found))
        return True

    def test_all_shapes(self):
        answers = [self.judge(shape) for shape in SHAPES]
        self.assertGreater(answers.count(True), 40)
        self.assertGreater(answers.count(False), 20)

    def test_known_ones(self):
        self.assertEqual(shelling(EMPTY), ())
        self.assertEqual(shelling(POINT), ((30,),))
        self.assertEqual(shelling(FULL), (tuple(range(8)),))
        for shape in (BOW, APART, PROJECTIVE, join(APART, Complex(((8,),)))):
            self.assertIsNone(shelling(shape))
        for shape in (OCTAHEDRON, RING, skeleton(FULL, 0), skeleton(FULL, 6), join(RING, Complex(((8, 9),)))):
            self.assertTrue(self.judge(shape))

    def test_twelve_and_thirteen(self):
        edges = tuple(combinations(range(6), 2))
        self.assertTrue(self.judge(Complex(edges[:12])))
        self.assertTrue(self.judge(Complex(tuple((k,) for k in range(12)))))
        self.assertTrue(self.judge(join(RING, Complex(((5,), (6,), (7,), (8,))))))
        apart = Complex(tuple((k, k + 1) for k in range(0, 24, 2)))
        self.assertIsNone(shelling(apart))
        # Eleven triangles at a vertex that can be in any order, and one that fits nowhere.
        self.assertIsNone(shelling(Complex(tuple((0, 1, k) for k in range(2, 13)) + ((0, 20, 21),))))
        self.assert_raises(TooMany(12), shelling, Complex(edges[:13]))
        self.assert_raises(TooMany(12), shelling, Complex(tuple((k,) for k in range(13))))
        self.assert_raises(TooMany(12), shelling, TORUS)
        # What is not pure comes first.
        self.assert_raises(NotPure(), shelling, union(TORUS, POINT))


class Restrictions(Judge, unittest.TestCase):
    def orders(self):
        for shape in SHAPES + [skeleton(FULL, 6)]:
            order = shelling(shape)
            if order is not None:
                yield shape, order
        yield skeleton(FULL, 3), skeleton(FULL, 3).facets

    def test_by_definition(self):
        for shape, order in self.orders():
            found = restrictions(shape, order)
            self.assertIsInstance(found, tuple)
            self.assertEqual(tuple(facet for facet, _ in found), order)
            for k, (facet, part) in enumerate(found):
                wanted = [vertex for vertex in facet if any(set(facet) - {vertex} <= set(other) for other in order[:k])]
                self.assertEqual(part, tuple(wanted))

    def test_sizes_are_h_numbers(self):
        for shape, order in self.orders():
            sizes = [len(part) for _, part in restrictions(shape, order)]
            if sizes:
                numbers = h_numbers(shape)
                self.assertEqual(numbers, tuple(sizes.count(size) for size in range(len(numbers))))

    def test_known_ones(self):
        self.assertEqual(restrictions(EMPTY, ()), ())
        self.assertEqual(restrictions(POINT, ((30,),)), (((30,), ()),))
        self.assertEqual(restrictions(RING, ((1, 2), (0, 2), (0, 1))), (((1, 2), ()), ((0, 2), (0,)), ((0, 1), (0, 1))))
        self.assertEqual(restrictions(Complex(((3,), (4,))), ((4,), (3,))), (((4,), ()), ((3,), (3,))))

    def test_errors(self):
        for value in ODD_VALUES + ((), ((0, 1), (0, 2)), [(0, 1), (0, 2), (1, 2)], RING):
            self.assert_raises(NotShelling(), restrictions, RING, value)
        self.assert_raises(NotShelling(), restrictions, BOW, BOW.facets)
        self.assert_raises(NotShelling(), restrictions, EMPTY, ((0,),))


if __name__ == "__main__":
    unittest.main()
