"""Points 29, 30, 33, and their errors in point 34."""

import random
import unittest
from itertools import combinations

from judges import (
    BAD_PRIMES, EMPTY, FULL, KLEIN, ODD_VALUES, PRIMES, PROJECTIVE, RING, TORUS, Judge, all_parts, faces, holes_by,
    moved_by)
from shapeholes.complexes import Complex, vertices_of
from shapeholes.duals import degrees_of_parts, dual, is_clean, missing
from shapeholes.errors import BadMany, BadPrime, FullComplex, NotComplex
from shapeholes.holes import holes, holes_mod
from shapeholes.parts import join, skeleton, union
from shapeholes.shellings import shelling

BAD_MANY = (0, 9, -1, True, False, None, "8", (8,), [], {}, RING, 10 ** 30)
FIRST = Complex(((0,),))
BOW = Complex(((0, 1, 2), (2, 3, 4)))


def some_shape(seed):
    """A complex and a number of points on which it lies, perhaps more than it has vertices."""
    source = random.Random(seed)
    many = source.randint(1, 7)
    return Complex(tuple(tuple(sorted(source.sample(range(many), source.randint(1, many))))
                         for _ in range(source.randint(0, 6)))), many


SHAPES = [some_shape(seed) for seed in range(120)] + [
    (EMPTY, 1), (EMPTY, 8), (FIRST, 1), (FIRST, 2), (FIRST, 8), (RING, 3), (RING, 8), (FULL, 8), (BOW, 5), (BOW, 6),
    (skeleton(FULL, 6), 8), (skeleton(FULL, 2), 8), (PROJECTIVE, 6), (PROJECTIVE, 8), (TORUS, 7), (TORUS, 8)]
NOT_FULL = [(shape, many) for shape, many in SHAPES if tuple(range(many)) not in shape]


def points(many):
    return tuple(range(many))


class Duals(Judge, unittest.TestCase):
    def test_by_definition(self):
        for shape, many in NOT_FULL:
            rests = {part: tuple(k for k in range(many) if k not in part) for part in all_parts(points(many))}
            self.assertEqual(faces(dual(shape, many)), {
                part for part, rest in rests.items() if rest and rest not in faces(shape)})

    def test_dual_of_the_dual(self):
        for shape, many in NOT_FULL:
            self.assertEqual(dual(dual(shape, many), many), shape)

    def test_holes_of_the_dual(self):
        for shape, many in NOT_FULL:
            other = dual(shape, many)
            for degree in range(-1, 8):
                partner = many - degree - 3
                for prime in PRIMES:
                    count = holes_mod(other, partner, prime) if -1 <= partner else 0
                    self.assertEqual(holes_mod(shape, degree, prime), count)
                torsion = holes(other, partner - 1)[1] if -1 <= partner - 1 else ()
                self.assertEqual(holes(shape, degree)[1], torsion)

    def test_known_ones(self):
        self.assertEqual(dual(EMPTY, 1), EMPTY)
        self.assertEqual(dual(EMPTY, 3), RING)
        self.assertEqual(dual(EMPTY, 8), skeleton(FULL, 6))
        self.assertEqual(dual(RING, 3), EMPTY)
        self.assertEqual(dual(FIRST, 2), FIRST)
        self.assertEqual(dual(Complex(((0, 1), (2, 3))), 4).facets, ((0, 2), (0, 3), (1, 2), (1, 3)))
        self.assertEqual(holes(dual(PROJECTIVE, 6), 1), (0, (2,)))

    def test_full(self):
        for many in range(1, 9):
            self.assert_raises(FullComplex(), dual, Complex((points(many),)), many)
        self.assertEqual(dual(Complex((points(7),)), 8), Complex((points(7),)))

    def test_bad_many(self):
        for call in (dual, missing, lambda shape, many: degrees_of_parts(shape, many, 4)):
            for value in BAD_MANY:
                self.assert_raises(BadMany(), call, EMPTY, value)
                self.assert_raises(BadMany(), call, FIRST, value)
            for shape, many in ((RING, 2), (FIRST, 0), (FULL, 7), (moved_by(FIRST, 7), 7), (moved_by(FIRST, 30), 8), (KLEIN, 8)):
                self.assert_raises(BadMany(), call, shape, many)
            for value in ODD_VALUES:
                self.assert_raises(NotComplex(), call, value, 0)


class Missing(Judge, unittest.TestCase):
    def test_by_definition(self):
        for shape, many in SHAPES:
            absent = [part for part in all_parts(points(many)) if part not in faces(shape)]
            wanted = [part for part in absent if not any(set(other) < set(part) for other in absent)]
            self.assertEqual(missing(shape, many), tuple(sorted(wanted, key=lambda part: (len(part), part))))

    def test_known_ones(self):
        self.assertEqual(missing(EMPTY, 3), ((0,), (1,), (2,)))
        self.assertEqual(missing(FULL, 8), ())
        self.assertEqual(missing(FIRST, 1), ())
        self.assertEqual(missing(RING, 5), ((3,), (4,), (0, 1, 2)))
        self.assertEqual(missing(skeleton(FULL, 6), 8), (points(8),))
        self.assertEqual(missing(Complex(((0, 1), (1, 2), (2, 3), (0, 3))), 4), ((0, 2), (1, 3)))
        self.assertEqual(missing(Complex(((0, 1), (0, 2), (1, 2), (3,))), 4), ((0, 3), (1, 3), (2, 3), (0, 1, 2)))


class Clean(Judge, unittest.TestCase):
    def by_definition(self, shape, prime):
        all_faces = faces(shape) | {()}
        for simplex in all_faces:
            link = {tuple(k for k in face if k not in simplex) for face in all_faces if set(simplex) <= set(face)}
            top = max(len(face) for face in link) - 1
            if any(holes_by(link, degree, prime) for degree in range(-1, top)):
                return False
        return True

    def test_by_definition(self):
        answers = []
        for seed, (shape, _) in enumerate(SHAPES):
            prime = PRIMES[seed % 4]
            if shape != FULL:
                answers.append(self.by_definition(shape, prime))
                self.assertIs(is_clean(shape, prime), answers[-1])
        self.assertGreater(answers.count(True), 20)
        self.assertGreater(answers.count(False), 10)

    def test_known_ones(self):
        two_edges = Complex(((0, 1), (2, 3)))
        for prime in PRIMES:
            for shape in (EMPTY, FIRST, RING, FULL, skeleton(FULL, 0), skeleton(FULL, 3), Complex(((0,), (30,)))):
                self.assertTrue(is_clean(shape, prime))
            for shape in (BOW, two_edges, TORUS, union(RING, Complex(((9,),))), Complex(((0, 1, 2), (2, 3)))):
                self.assertFalse(is_clean(shape, prime))
            self.assertIs(is_clean(PROJECTIVE, prime), prime != 2)
            # Without holes itself, but the link of vertex 8 has a hole of a low degree.
            self.assertFalse(is_clean(join(two_edges, Complex(((8,),))), prime))

    def test_shellings_are_clean(self):
        for seed in range(60):
            source = random.Random(seed)
            shape = Complex(tuple(source.sample(list(combinations(range(5), 3)), source.randint(1, 6))))
            if shelling(shape) is not None:
                self.assertTrue(all(is_clean(shape, prime) for prime in PRIMES))

    def test_errors(self):
        for value in ODD_VALUES:
            self.assert_raises(NotComplex(), is_clean, value, 4)
        for value in BAD_PRIMES:
            self.assert_raises(BadPrime(), is_clean, EMPTY, value)
            self.assert_raises(BadPrime(), is_clean, RING, value)


class Degrees(Judge, unittest.TestCase):
    def test_by_definition(self):
        for seed, (shape, many) in enumerate(SHAPES):
            if many <= 6:
                prime = PRIMES[seed % 4]
                parts = [{face for face in faces(shape) | {()} if set(face) <= set(chosen)} for chosen in all_parts(points(many))]
                wanted = {degree for part in parts for degree in range(-1, 6) if holes_by(part, degree, prime)}
                self.assertEqual(degrees_of_parts(shape, many, prime), tuple(sorted(wanted)))

    def test_clean_and_dual(self):
        """A complex is clean just if parts of its dual have holes of one degree only."""
        for shape, many in NOT_FULL:
            length = max((len(facet) for facet in shape.facets), default=0)
            for prime in (2, 3):
                degrees = degrees_of_parts(dual(shape, many), many, prime)
                self.assertEqual(is_clean(shape, prime), set(degrees) <= {many - length - 2})

    def test_known_ones(self):
        self.assertEqual(degrees_of_parts(EMPTY, 1, 2), (-1,))
        self.assertEqual(degrees_of_parts(FIRST, 1, 2), ())
        self.assertEqual(degrees_of_parts(FIRST, 2, 2), (-1,))
        self.assertEqual(degrees_of_parts(FULL, 8, 7), ())
        self.assertEqual(degrees_of_parts(skeleton(FULL, 6), 8, 7), (6,))
        self.assertEqual(degrees_of_parts(RING, 3, 3), (1,))
        self.assertEqual(degrees_of_parts(Complex(((0, 1), (1, 2), (2, 3), (0, 3))), 8, 5), (-1, 0, 1))
        self.assertEqual(degrees_of_parts(PROJECTIVE, 6, 2), (1, 2))
        self.assertEqual(degrees_of_parts(PROJECTIVE, 6, 3), (1,))

    def test_errors(self):
        for value in BAD_PRIMES:
            self.assert_raises(BadPrime(), degrees_of_parts, EMPTY, 1, value)
            self.assert_raises(BadPrime(), degrees_of_parts, FULL, 8, value)
        # All points may be a simplex here.
        self.assertEqual([missing(FIRST, 1), degrees_of_parts(FIRST, 1, 2)], [(), ()])

    def test_arguments_stay(self):
        before = faces(BOW), vertices_of(BOW)
        dual(BOW, 8), missing(BOW, 8), is_clean(BOW, 2), degrees_of_parts(BOW, 8, 2)
        self.assertEqual((faces(BOW), vertices_of(BOW)), before)


if __name__ == "__main__":
    unittest.main()
