"""Of point 39 subdivided."""

import random
import unittest
from itertools import combinations

from judges import EMPTY, FULL, ODD_VALUES, PROJECTIVE, RING, TORUS, Judge, faces
from shapeholes.complexes import Complex, counts_of, euler_of, simplices_of
from shapeholes.errors import NotComplex, TooMany
from shapeholes.holes import holes
from shapeholes.parts import skeleton
from shapeholes.subdivisions import subdivided

PATH = Complex(tuple((k, k + 1) for k in range(15)))


def some_shape(seed):
    source = random.Random(seed)
    while True:
        shape = Complex(tuple(tuple(sorted(source.sample(range(7), source.randint(1, 4)))) for _ in range(source.randint(0, 6))))
        if len(simplices_of(shape)) <= 31:
            return shape


SHAPES = [some_shape(seed) for seed in range(60)] + [EMPTY, Complex(((30,),)), RING, PATH, skeleton(FULL, 0)]


def chains_of(shape):
    """All sets of simplices in a row, as sets of their indexes, each simplex a face of the next one."""
    simplices = simplices_of(shape)
    found = [(k,) for k in range(len(simplices))]
    for chain in found:
        last = set(simplices[chain[-1]])
        found += [chain + (k,) for k in range(len(simplices)) if last < set(simplices[k])]
    return set(found)


class Subdivided(Judge, unittest.TestCase):
    def test_by_definition(self):
        for shape in SHAPES:
            if len(chains_of(shape)) <= 400:
                self.assertEqual(faces(subdivided(shape)), chains_of(shape))

    def test_any_two_are_faces(self):
        shape = Complex(((0, 1, 2), (2, 5)))
        simplices = [set(simplex) for simplex in simplices_of(shape)]
        for size in range(1, 5):
            for chosen in combinations(range(len(simplices)), size):
                together = all(simplices[a] <= simplices[b] for a, b in combinations(chosen, 2))
                self.assertEqual(chosen in subdivided(shape), together)

    def test_same_holes(self):
        for shape in SHAPES:
            if len(chains_of(shape)) <= 400:
                self.assertEqual(euler_of(subdivided(shape)), euler_of(shape))
                for degree in range(-1, 4):
                    self.assertEqual(holes(subdivided(shape), degree), holes(shape, degree))

    def test_known_ones(self):
        self.assertEqual(subdivided(EMPTY), EMPTY)
        self.assertEqual(subdivided(Complex(((30,),))).facets, ((0,),))
        self.assertEqual(subdivided(Complex(((4, 7),))).facets, ((0, 2), (1, 2)))
        self.assertEqual(subdivided(RING).facets, ((0, 3), (0, 4), (1, 3), (1, 5), (2, 4), (2, 5)))
        self.assertEqual(counts_of(subdivided(Complex(((0, 1, 2),)))), (7, 12, 6))
        self.assertEqual(counts_of(subdivided(Complex(((0, 1, 2, 3),))))[-1], 24)

    def test_31_and_32_simplices(self):
        self.assertEqual(counts_of(subdivided(PATH)), (31, 30))
        self.assertEqual(counts_of(subdivided(Complex(tuple((k,) for k in range(31))))), (31,))
        self.assert_raises(TooMany(31), subdivided, Complex(PATH.facets + ((30,),)))
        for shape in (TORUS, FULL, skeleton(FULL, 1)):
            self.assert_raises(TooMany(31), subdivided, shape)
        # 31 simplices, too.
        self.assertEqual(sum(counts_of(PROJECTIVE)), 31)
        self.assertEqual(counts_of(subdivided(PROJECTIVE)), (31, 90, 60))

    def test_400_simplices(self):
        """At most 31 simplices never have just 400 sets in a row: 397 and 465 are the next numbers."""
        low = Complex(((0, 1, 2, 3), (0, 1, 2, 4), (0, 1, 3, 5)))
        self.assertEqual([sum(counts_of(low)), sum(counts_of(subdivided(low)))], [31, 397])
        high = Complex(((0, 1, 2, 3), (0, 1, 2, 4), (0, 1, 3, 4), (0, 2, 3, 4)))
        self.assertEqual([sum(counts_of(high)), len(chains_of(high))], [29, 465])
        self.assert_raises(TooMany(400), subdivided, high)
        self.assert_raises(TooMany(400), subdivided, Complex(((0, 1, 2, 3, 4),)))
        # More than 31 simplices come first.
        self.assert_raises(TooMany(31), subdivided, Complex(((0, 1, 2, 3, 4), (5,))))

    def test_no_complex(self):
        for value in ODD_VALUES + ((),):
            if not isinstance(value, Complex):
                self.assert_raises(NotComplex(), subdivided, value)

    def test_argument_stays(self):
        before = simplices_of(RING)
        subdivided(RING)
        self.assertEqual(simplices_of(RING), before)


if __name__ == "__main__":
    unittest.main()
