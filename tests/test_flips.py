"""Point 56."""

import random
import unittest
from itertools import combinations

from judges import (
    DUNCE, EMPTY, FROZEN, FULL, KLEIN, OCTAHEDRON, ODD_VALUES, PROJECTIVE, RING, SPHERE, TORUS, Judge, faces, flipped_by,
    grid_surface, grown, moore, stirred, tips_of)
from shapeholes.complexes import Complex, vertices_of
from shapeholes.errors import NotComplex, NotFlip, NotSurface
from shapeholes.flips import flip_road, flipped, flips
from shapeholes.matches import isomorphism
from shapeholes.parts import renamed
from shapeholes.surfaces import connected_sum, is_surface, kind

GRID = grid_surface(4, 4, False)
SURFACES = [SPHERE, OCTAHEDRON, TORUS, PROJECTIVE, KLEIN, GRID, connected_sum(TORUS, PROJECTIVE)] + list(FROZEN) + [
    stirred(grown(shape, many, random.Random(many)), 40, random.Random(many))
    for shape in (SPHERE, TORUS, PROJECTIVE) for many in (8, 14, 31)]
NO_SURFACES = [EMPTY, RING, FULL, DUNCE, moore(3), Complex(((0, 1, 2),)), Complex(TORUS.facets[1:]),
               Complex(SPHERE.facets + ((0, 1, 4),)), Complex(SPHERE.facets + ((4,),))]


def edges_of(shape):
    return sorted(simplex for simplex in faces(shape) if len(simplex) == 2)


def can_flip(shape, edge):
    return tuple(sorted(tips_of(shape.facets, edge))) not in faces(shape)


def mixed(shape, seed):
    """The surface with other names, behind many flips."""
    source = random.Random(seed)
    vertices = vertices_of(shape)
    names = tuple(zip(vertices, source.sample(range(31), len(vertices))))
    return stirred(renamed(shape, names), 200, source)


def surface_errors(case, call):
    for value in ODD_VALUES + ((),):
        if not isinstance(value, Complex):
            case.assert_raises(NotComplex(), call, value)
    for shape in NO_SURFACES:
        case.assert_raises(NotSurface(), call, shape)


class Flips(Judge, unittest.TestCase):
    def test_by_definition(self):
        for shape in SURFACES:
            self.assertEqual(flips(shape), [edge for edge in edges_of(shape) if can_flip(shape, edge)])

    def test_known_ones(self):
        for shape in (SPHERE, TORUS, PROJECTIVE) + FROZEN:
            # Any two vertices are connected.
            self.assertEqual(flips(shape), [])
        self.assertEqual(flips(OCTAHEDRON), edges_of(OCTAHEDRON))
        self.assertEqual(flips(connected_sum(SPHERE, SPHERE)), [(0, 1), (0, 2), (1, 2)])
        self.assertEqual(len(flips(GRID)), 48)

    def test_list_is_new(self):
        flips(OCTAHEDRON).clear()
        self.assertEqual(len(flips(OCTAHEDRON)), 12)

    def test_errors(self):
        surface_errors(self, flips)


class Flipped(Judge, unittest.TestCase):
    def test_by_definition(self):
        for shape in SURFACES:
            for edge in edges_of(shape)[:20]:
                if can_flip(shape, edge):
                    behind = flipped(shape, edge)
                    self.assertEqual(behind, Complex(tuple(flipped_by(shape.facets, edge))))
                    self.assertTrue(is_surface(behind))
                    self.assertEqual(kind(behind), kind(shape))
                    # The edge of the tips can be flipped back.
                    self.assertEqual(flipped(behind, tuple(sorted(tips_of(shape.facets, edge)))), shape)
                else:
                    self.assert_raises(NotFlip(), flipped, shape, edge)

    def test_known_ones(self):
        self.assertEqual(flipped(OCTAHEDRON, (0, 2)).facets,
                         ((0, 3, 4), (0, 3, 5), (0, 4, 5), (1, 2, 4), (1, 2, 5), (1, 3, 4), (1, 3, 5), (2, 4, 5)))

    def test_errors(self):
        surface_errors(self, lambda shape: flipped(shape, None))
        for value in ODD_VALUES + ((), (0,), (0, 1), (2, 0), (0, 2, 4), (0, 6), [0, 2], (False, 2), (0, 2, 2), ((0,), (2,)), "02",
                                   (0, None), (0, [2]), {0: 2}, OCTAHEDRON):
            self.assert_raises(NotFlip(), flipped, OCTAHEDRON, value)
        self.assert_raises(NotFlip(), flipped, SPHERE, (0, 1))
        self.assert_raises(NotFlip(), flipped, TORUS, (0, 1))


class Roads(Judge, unittest.TestCase):
    def assert_road(self, one, other):
        """A road is what it should be: each flip is one, and the names lead to the other surface."""
        road = flip_road(one, other)
        self.assertIsInstance(road, tuple)
        edges, names = road
        self.assertIsInstance(edges, tuple)
        shape = one.facets
        for edge in edges:
            self.assertTrue(edge == tuple(sorted(edge)) and len(edge) == 2 and tips_of(shape, edge))
            shape = flipped_by(shape, edge)
            self.assertIsNotNone(shape)
        self.assertEqual(renamed(Complex(tuple(shape)), names), other)
        return edges

    def test_spheres(self):
        """Two spheres with as many vertices always have a road."""
        for many in (4, 5, 6, 7, 8, 9, 10, 13, 19, 25, 31):
            for seed in range(3):
                plain = grown(SPHERE, many, random.Random(seed))
                self.assert_road(plain, mixed(plain, seed + 10))
                self.assert_road(mixed(plain, seed), grown(SPHERE, many, random.Random(seed + 10)))
        # A ring of vertices between two others, and all triangles at two connected vertices.
        for many in (5, 8, 20, 31):
            drum = Complex(tuple(tuple(sorted((k, (k + 1) % (many - 2)))) + (tip,)
                                 for k in range(many - 2) for tip in (many - 2, many - 1)))
            fan = Complex(((0, 1, 2), (0, 1, many - 1)) + tuple((tip, k, k + 1) for k in range(2, many - 1) for tip in (0, 1)))
            self.assert_road(drum, fan)
            self.assert_road(fan, drum)

    def test_other_surfaces(self):
        for base, numbers in ((TORUS, (7, 8, 9, 12, 20, 31)), (PROJECTIVE, (6, 7, 8, 12, 31)), (KLEIN, (16, 22)),
                              (connected_sum(TORUS, PROJECTIVE), (10, 14)), (connected_sum(TORUS, TORUS), (11, 16))):
            for many in numbers:
                plain = grown(base, many, random.Random(many))
                self.assert_road(plain, mixed(plain, many))
        self.assert_road(GRID, grown(TORUS, 16, random.Random(1)))
        self.assert_road(KLEIN, grid_surface(4, 4, True))
        self.assert_road(connected_sum(connected_sum(PROJECTIVE, PROJECTIVE), PROJECTIVE),
                         grown(connected_sum(TORUS, PROJECTIVE), 12, random.Random(2)))

    def test_surfaces_that_are_alike(self):
        for shape in SURFACES:
            self.assertEqual(self.assert_road(shape, shape), ())
            names = tuple((vertex, 30 - vertex) for vertex in vertices_of(shape))
            self.assertEqual(self.assert_road(shape, renamed(shape, names)), ())

    def test_none(self):
        """Other kinds or numbers of vertices, and surfaces in which no edge can be flipped."""
        for one, other in combinations(SURFACES, 2):
            if kind(one) != kind(other) or len(vertices_of(one)) != len(vertices_of(other)):
                self.assertIsNone(flip_road(one, other))
                self.assertIsNone(flip_road(other, one))
        self.assertEqual([kind(shape) for shape in FROZEN], [(False, 5)] * 2)
        self.assertIsNone(isomorphism(*FROZEN))
        self.assertIsNone(flip_road(*FROZEN))
        self.assertIsNone(flip_road(GRID, KLEIN))

    def test_frozen_ones_with_more_vertices(self):
        for many in (10, 12):
            self.assert_road(grown(FROZEN[0], many, random.Random(1)), grown(FROZEN[1], many, random.Random(2)))

    def test_errors(self):
        surface_errors(self, lambda shape: flip_road(shape, None))
        surface_errors(self, lambda shape: flip_road(SPHERE, shape))
        surface_errors(self, lambda shape: flip_road(TORUS, shape))
        self.assert_raises(NotSurface(), flip_road, RING, None)
        self.assert_raises(NotComplex(), flip_road, SPHERE, None)
        self.assert_raises(NotSurface(), flip_road, RING, RING)

    def test_arguments_stay(self):
        one, other = grown(SPHERE, 9, random.Random(1)), mixed(grown(SPHERE, 9, random.Random(1)), 2)
        before = one.facets, faces(one), other.facets, faces(other)
        flips(one), flipped(one, flips(one)[0]), flip_road(one, other)
        self.assertEqual((one.facets, faces(one), other.facets, faces(other)), before)


if __name__ == "__main__":
    unittest.main()
