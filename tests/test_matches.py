"""Point 7."""

import random
import unittest
from itertools import combinations, permutations

from judges import EMPTY, FULL, KLEIN, ODD_VALUES, PROJECTIVE, RING, TORUS, Judge, grid_surface, moved_by
from shapeholes.complexes import Complex, counts_of, vertices_of
from shapeholes.errors import NotComplex
from shapeholes.matches import isomorphism
from shapeholes.parts import renamed


def shuffled(shape, seed):
    news = random.Random(seed).sample(range(31), len(vertices_of(shape)))
    return renamed(shape, tuple(zip(vertices_of(shape), news)))


def rings(*lengths):
    edges, first = [], 0
    for length in lengths:
        edges += [tuple(sorted((first + k, first + (k + 1) % length))) for k in range(length)]
        first += length
    return Complex(tuple(edges))


def grid_graph(steps):
    """16 points in a square; each one is connected to those some steps away."""
    spots = [(row, column) for row in range(4) for column in range(4)]
    return Complex(tuple(
        (k, m) for k, m in combinations(range(16), 2)
        if ((spots[m][0] - spots[k][0]) % 4, (spots[m][1] - spots[k][1]) % 4) in steps))


# Two graphs in which each point, and each two points, have as many common neighbors in either.
ROOK = grid_graph([(0, 1), (0, 2), (0, 3), (1, 0), (2, 0), (3, 0)])
SHRIKHANDE = grid_graph([(0, 1), (0, 3), (1, 0), (3, 0), (1, 1), (3, 3)])


class Isomorphism(Judge, unittest.TestCase):
    def judge(self, one, other):
        names = isomorphism(one, other)
        self.assertIsInstance(names, tuple)
        self.assertEqual(renamed(one, names), other)

    def test_like_ones(self):
        for seed, shape in enumerate((EMPTY, RING, FULL, TORUS, PROJECTIVE, KLEIN, ROOK, SHRIKHANDE,
                                      rings(3, 3, 4, 4, 5), Complex(tuple((k,) for k in range(31))),
                                      Complex(((30,),)), Complex(tuple((k, m) for k in range(9) for m in range(9, 18))),
                                      Complex(((0, 1, 2), (2, 3), (4,))))):
            self.judge(shape, shape)
            self.judge(shape, shuffled(shape, seed))
            self.judge(shuffled(shape, seed), shuffled(shape, seed + 9))

    def test_random_ones(self):
        for seed in range(40):
            source = random.Random(seed)
            facets = tuple(tuple(sorted(source.sample(range(12), source.randint(1, 4)))) for _ in range(10))
            self.judge(Complex(facets), shuffled(Complex(facets), seed))

    def test_empty(self):
        self.assertEqual(isomorphism(EMPTY, EMPTY), ())
        self.assertIsNone(isomorphism(EMPTY, Complex(((0,),))))
        self.assertIsNone(isomorphism(Complex(((0,),)), EMPTY))

    def test_form(self):
        self.assertEqual(isomorphism(Complex(((4, 7), (9,))), Complex(((2, 3), (1,))))[2], (9, 1))
        names = isomorphism(Complex(((4, 7), (9,))), Complex(((2, 3), (1,))))
        self.assertEqual([old for old, _ in names], [4, 7, 9])

    def test_unlike_ones(self):
        self.assertIsNone(isomorphism(RING, Complex(((0, 1, 2),))))
        self.assertIsNone(isomorphism(Complex(((0, 1),)), Complex(((0,), (1,)))))
        # As many simplices of each degree, and as many around each vertex.
        for one, other in ((rings(6), rings(3, 3)), (rings(3, 3, 6, 6, 6), rings(4, 4, 4, 5, 7)),
                           (rings(3, 3, 3, 3, 3, 3, 6, 6), rings(3, 3, 3, 3, 4, 4, 5, 5)), (ROOK, SHRIKHANDE),
                           (KLEIN, grid_surface(4, 4, False))):
            self.assertEqual(counts_of(one), counts_of(other))
            self.assertIsNone(isomorphism(one, other))
            self.assertIsNone(isomorphism(shuffled(other, 1), one))

    def test_unlike_ones_beside_points(self):
        """15! ways to match the points lead to nothing: the search must not try them all."""
        points = tuple((k,) for k in range(15))
        one, other = moved_by(ROOK, 15), moved_by(SHRIKHANDE, 15)
        self.assertIsNone(isomorphism(Complex(points + one.facets), Complex(points + other.facets)))

    def test_all_pairs_of_small_ones(self):
        triangles = list(combinations(range(5), 3))
        shapes = [Complex(tuple(chosen)) for chosen in combinations(triangles, 4)][::14]
        for one, other in combinations(shapes, 2):
            like = any(renamed(one, tuple(zip(vertices_of(one), news))) == other
                       for news in permutations(vertices_of(other))) and len(vertices_of(one)) == len(vertices_of(other))
            self.assertEqual(isomorphism(one, other) is not None, like)

    def test_no_complex(self):
        for value in ODD_VALUES:
            self.assert_raises(NotComplex(), isomorphism, value, RING)
            self.assert_raises(NotComplex(), isomorphism, RING, value)


if __name__ == "__main__":
    unittest.main()
