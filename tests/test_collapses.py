"""Points 19 to 21."""

import random
import unittest

from judges import DUNCE, EMPTY, FULL, KLEIN, ODD_VALUES, PROJECTIVE, RING, TORUS, Judge, faces, moved_by
from shapeholes.collapses import apexes, collapse_fully, collapsed, core, dominated, free_pairs, left_by
from shapeholes.complexes import Complex, counts_of, simplices_of, vertices_of
from shapeholes.errors import BadPairs, NotComplex
from shapeholes.holes import holes, holes_mod
from shapeholes.matches import isomorphism
from shapeholes.parts import deletion, induced, join, skeleton, union

POINT = Complex(((30,),))
TRIANGLE = Complex(((0, 1, 2),))


def some_shape(seed, most=8, length=4):
    source = random.Random(seed)
    return Complex(tuple(tuple(sorted(source.sample(range(most), source.randint(1, length))))
                         for _ in range(source.randint(1, 9))))


SHAPES = [some_shape(seed) for seed in range(60)] + [
    EMPTY, POINT, TRIANGLE, RING, TORUS, PROJECTIVE, KLEIN, DUNCE, FULL, skeleton(FULL, 6), join(DUNCE, POINT),
    Complex(((0, 1), (1, 2), (2, 3), (5,)))]


def free_by_definition(simplices):
    found = []
    for simplex in simplices:
        above = [other for other in simplices if set(simplex) < set(other)]
        if len(above) == 1:
            found.append((simplex, above[0]))
    return sorted(found)


class Steps(Judge, unittest.TestCase):
    def test_free_pairs(self):
        for shape in SHAPES:
            self.assertEqual(free_pairs(shape), free_by_definition(faces(shape)))

    def test_known_ones(self):
        self.assertEqual(free_pairs(TRIANGLE), [((0, 1), (0, 1, 2)), ((0, 2), (0, 1, 2)), ((1, 2), (0, 1, 2))])
        self.assertEqual(free_pairs(Complex(((0, 1),))), [((0,), (0, 1)), ((1,), (0, 1))])
        for shape in (EMPTY, POINT, RING, TORUS, PROJECTIVE, KLEIN, DUNCE, Complex(((0,), (1,)))):
            self.assertEqual(free_pairs(shape), [])
        free_pairs(TRIANGLE).clear()
        self.assertEqual(len(free_pairs(TRIANGLE)), 3)

    def test_collapsed(self):
        for seed, shape in enumerate(SHAPES):
            source = random.Random(seed)
            left, steps = faces(shape), []
            while free_by_definition(left) and len(left) < 99:
                steps.append(source.choice(free_by_definition(left)))
                left = left - set(steps[-1])
                self.assertEqual(faces(collapsed(shape, tuple(steps))), left)

    def test_no_steps(self):
        for shape in SHAPES:
            self.assertEqual(collapsed(shape, ()), shape)

    def test_bad_pairs(self):
        good = ((0, 1), (0, 1, 2))
        for value in (None, 3, True, "", [], [good], {}, RING, (good,) * 8, (None,) * 8):
            self.assert_raises(BadPairs(None), collapsed, TRIANGLE, value)
        self.assert_raises(BadPairs(None), collapsed, EMPTY, (good,))
        self.assert_raises(BadPairs(0), collapsed, POINT, (good,))
        for item in (None, 0, (), ((0, 1),), good + ((0,),), list(good), ([0, 1], (0, 1, 2)), ((0, 1), [0, 1, 2]),
                     ((0, 1, 2), (0, 1)), ((0,), (0, 1)), ((0,), (0, 1, 2)), ((), (0,)), ((0, True), (0, 1, 2)),
                     ((0, 1), (0, True, 2)), ((1, 0), (0, 1, 2)), ((0, 3), (0, 1, 3)), ((0, 1), None), (RING, TRIANGLE),
                     ({}, ()), "ab"):
            self.assert_raises(BadPairs(0), collapsed, TRIANGLE, (item,) * 7)
            self.assert_raises(BadPairs(1), collapsed, TRIANGLE, (good, item if item != ((0,), (0, 1)) else None))

    def test_pairs_of_what_is_left(self):
        good = ((0, 1), (0, 1, 2))
        # Taken away already, or not free as long as the triangle is there.
        self.assert_raises(BadPairs(1), collapsed, TRIANGLE, (good, good))
        self.assert_raises(BadPairs(1), collapsed, TRIANGLE, (good, ((0, 2), (0, 1, 2))))
        self.assert_raises(BadPairs(0), collapsed, TRIANGLE, (((1,), (1, 2)), good))
        self.assertEqual(collapsed(TRIANGLE, (good, ((1,), (1, 2)))).facets, ((0, 2),))
        self.assertEqual(collapsed(TRIANGLE, (good, ((1,), (1, 2)), ((2,), (0, 2)))).facets, ((0,),))
        self.assert_raises(BadPairs(3), collapsed, TRIANGLE, (good, ((1,), (1, 2)), ((2,), (0, 2)), ((), (0,))))
        self.assert_raises(BadPairs(0), collapsed, RING, (((0,), (0, 1)),))

    def test_no_complex(self):
        for value in ODD_VALUES:
            for call in (free_pairs, collapse_fully, left_by, dominated, apexes, core):
                self.assert_raises(NotComplex(), call, value)
            self.assert_raises(NotComplex(), collapsed, value, None)


class Full(Judge, unittest.TestCase):
    def test_no_free_pair_is_left(self):
        for shape in SHAPES:
            steps = collapse_fully(shape)
            self.assertIsInstance(steps, tuple)
            left = faces(shape)
            for pair in steps:
                if len(left) < 99:
                    self.assertIn(pair, free_by_definition(left))
                left = left - set(pair)
            self.assertEqual(free_by_definition(left), [])
            self.assertEqual(faces(left_by(shape)), left)
            self.assertEqual(left_by(shape), collapsed(shape, steps))

    def test_holes_stay(self):
        for shape in SHAPES:
            for degree in range(-1, 8):
                self.assertEqual(holes(left_by(shape), degree), holes(shape, degree))

    def test_few_vertices_without_holes(self):
        """A complex of at most seven vertices ends in one vertex just if it has no holes by 2."""
        shapes = [some_shape(seed, 7) for seed in range(300)] + [PROJECTIVE, EMPTY, RING, POINT, TRIANGLE]
        ends = 0
        for shape in shapes:
            has_holes = any(holes_mod(shape, degree, 2) for degree in range(-1, 8))
            self.assertEqual(len(simplices_of(left_by(shape))) == 1, not has_holes)
            ends += not has_holes
        self.assertGreater(ends, 40)
        self.assertGreater(len(shapes) - ends, 40)

    def test_more_vertices_without_holes(self):
        self.assertEqual([holes(DUNCE, degree) for degree in range(-1, 4)], [(0, ())] * 5)
        self.assertEqual(collapse_fully(DUNCE), ())
        self.assertEqual(left_by(DUNCE), DUNCE)

    def test_edges(self):
        self.assertEqual([collapse_fully(EMPTY), left_by(EMPTY)], [(), EMPTY])
        self.assertEqual([collapse_fully(POINT), left_by(POINT)], [(), POINT])
        self.assertEqual([collapse_fully(RING), left_by(RING)], [(), RING])
        self.assertEqual(len(collapse_fully(FULL)), 127)
        self.assertEqual(counts_of(left_by(FULL)), (1,))
        self.assertEqual(counts_of(left_by(join(POINT, moved_by(RING, 3)))), (1,))

    def test_arguments_stay(self):
        before = simplices_of(FULL)
        collapse_fully(FULL), left_by(FULL), core(FULL), free_pairs(FULL)
        self.assert_raises(BadPairs(1), collapsed, FULL, ((tuple(range(7)), tuple(range(8))), None))
        self.assertEqual(simplices_of(FULL), before)


def dominated_by_definition(shape):
    vertices = vertices_of(shape)
    return [(one, other) for one in vertices for other in vertices
            if one != other and all(other in facet for facet in shape.facets if one in facet)]


class Cores(Judge, unittest.TestCase):
    def test_dominated(self):
        for shape in SHAPES:
            self.assertEqual(dominated(shape), dominated_by_definition(shape))
        self.assertEqual(dominated(Complex(((0, 1), (1, 2)))), [(0, 1), (2, 1)])
        self.assertEqual(dominated(TRIANGLE), [(0, 1), (0, 2), (1, 0), (1, 2), (2, 0), (2, 1)])
        for shape in (EMPTY, POINT, RING, TORUS, Complex(((0,), (1,)))):
            self.assertEqual(dominated(shape), [])

    def test_apexes(self):
        for shape in SHAPES:
            wanted = [vertex for vertex in vertices_of(shape) if all(vertex in facet for facet in shape.facets)]
            self.assertEqual(apexes(shape), tuple(wanted))
        self.assertEqual(apexes(EMPTY), ())
        self.assertEqual(apexes(POINT), (30,))
        self.assertEqual(apexes(FULL), tuple(range(8)))
        self.assertEqual(apexes(Complex(((0, 1, 4), (1, 2, 4), (1, 3, 4)))), (1, 4))
        self.assertEqual(apexes(join(Complex(((9,),)), TORUS)), (9,))
        self.assertEqual(apexes(TORUS), ())

    def is_reached(self, shape, vertices):
        """Whether some dominated vertices, one after another, can be deleted so that just these are left."""
        if vertices_of(shape) == vertices:
            return True
        return any(self.is_reached(deletion(shape, vertex), vertices)
                   for vertex in sorted({pair[0] for pair in dominated_by_definition(shape)} - set(vertices)))

    def core_at_random(self, shape, source):
        while dominated_by_definition(shape):
            shape = deletion(shape, source.choice(dominated_by_definition(shape))[0])
        return shape

    def test_core(self):
        for seed, shape in enumerate(SHAPES):
            found = core(shape)
            self.assertEqual(dominated_by_definition(found), [])
            self.assertEqual(found, induced(shape, vertices_of(found)))
            self.assertTrue(self.is_reached(shape, vertices_of(found)))
            # All cores are alike up to names.
            self.assertIsNotNone(isomorphism(found, self.core_at_random(shape, random.Random(seed))))

    def test_known_ones(self):
        for shape in (EMPTY, POINT, RING, TORUS, PROJECTIVE, DUNCE):
            self.assertEqual(core(shape), shape)
        for shape in (TRIANGLE, FULL, join(POINT, TORUS), Complex(((0, 1), (1, 2), (2, 3), (2, 4)))):
            self.assertEqual(counts_of(core(shape)), (1,))
        self.assertEqual(core(union(RING, Complex(((2, 3, 4), (4, 5))))), RING)
        self.assertEqual(counts_of(core(Complex(((0, 1), (2, 3))))), (2,))
        # An octahedron without a triangle collapses to one vertex, but no vertex of it is dominated.
        shape = Complex(tuple((a, b, c) for a in (0, 1) for b in (2, 3) for c in (4, 5))[1:])
        self.assertEqual([counts_of(left_by(shape)), core(shape)], [(1,), shape])


if __name__ == "__main__":
    unittest.main()
