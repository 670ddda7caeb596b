"""Point 53."""

import random
import unittest
from itertools import combinations

from judges import (
    DUNCE, EMPTY, FULL, KLEIN, ODD_VALUES, PRIMES, PROJECTIVE, RING, SPHERE, TORUS, Judge, faces, moore)
from shapeholes.collapses import collapse_fully
from shapeholes.complexes import Complex, counts_of, euler_of
from shapeholes.errors import BadMatching, NotComplex
from shapeholes.holes import holes_mod
from shapeholes.matchings import critical_counts, is_loopless

POINT = Complex(((30,),))
AROUND = (((0,), (0, 1)), ((1,), (1, 2)), ((2,), (0, 2)))


def some_shape(seed):
    source = random.Random(seed)
    return Complex(tuple(tuple(sorted(source.sample(range(6), source.randint(1, 4)))) for _ in range(source.randint(0, 6))))


SHAPES = [some_shape(seed) for seed in range(60)] + [
    EMPTY, POINT, RING, SPHERE, TORUS, PROJECTIVE, KLEIN, DUNCE, moore(3), Complex(((0, 1, 2, 3),))]


def steps(shape):
    return [(low, high) for high in sorted(faces(shape)) for low in combinations(high, len(high) - 1) if low]


def some_matching(source, shape):
    """Pairs drawn at random without a common simplex; it may have rings."""
    found, used = [], set()
    for low, high in source.sample(steps(shape), len(steps(shape))):
        if low not in used and high not in used and source.random() < 0.9:
            found.append((low, high))
            used |= {low, high}
    return tuple(found)


def has_ring(pairs):
    """Whether the way from some first simplex comes back to it."""
    up = dict(pairs)
    for start in up:
        seen, waiting = set(), [start]
        while waiting:
            low = waiting.pop()
            for vertex in up[low]:
                side = tuple(k for k in up[low] if k != vertex)
                if side in up and side != low:
                    if side == start:
                        return True
                    if side not in seen:
                        seen.add(side)
                        waiting.append(side)
    return False


MATCHINGS = [(shape, some_matching(random.Random(seed), shape))
             for number, shape in enumerate(SHAPES) for seed in range(number, number + 5)]


class Loopless(Judge, unittest.TestCase):
    def test_by_definition(self):
        answers = []
        for shape, pairs in MATCHINGS:
            answers.append(not has_ring(pairs))
            self.assertIs(is_loopless(shape, pairs), answers[-1])
        self.assertGreater(answers.count(True), 50)
        self.assertGreater(answers.count(False), 50)

    def test_known_ones(self):
        self.assertIs(is_loopless(RING, AROUND), False)
        for k in range(3):
            self.assertIs(is_loopless(RING, AROUND[:k] + AROUND[k + 1:]), True)
        self.assertIs(is_loopless(RING, (((0,), (0, 1)), ((1,), (1, 2)), ((2,), (1, 2)))), False)
        self.assertIs(is_loopless(Complex(((0, 1, 2),)), AROUND), False)
        # One that comes back after two steps, and one of edges and triangles.
        self.assertIs(is_loopless(SPHERE, (((0, 1), (0, 1, 2)), ((1, 2), (1, 2, 3)), ((1, 3), (0, 1, 3)))), False)
        self.assertIs(is_loopless(SPHERE, (((0, 1), (0, 1, 2)), ((1, 2), (1, 2, 3)))), True)
        for shape in SHAPES:
            self.assertIs(is_loopless(shape, ()), True)

    def test_of_any_value(self):
        good = (((0,), (0, 1)), ((1,), (1, 2)))
        self.assertIs(is_loopless(RING, good), True)
        for value in ODD_VALUES + (
                list(good), good + good[:1], good + (((2,), (1, 2)),), (((0, 1), (0,)),), (((0,), (1, 2)),), (((0,), (0, 3)),),
                (((), (0,)),), (((0, 1), (0, 1, 2)),), (((0,), (0, 1), (0, 2)),), ((0, (0, 1)),), ([(0,), (0, 1)],), (((0,), [0, 1]),),
                (((False,), (0, 1)),), (((0,), (0, True)),), ((0,), (0, 1)), (((0,), (0,)),), ("01",), (None,), (((0,), None),),
                ((None, (0, 1)),), {(0,): (0, 1)}):
            self.assertIs(is_loopless(RING, value), False)
            self.assert_raises(BadMatching(), critical_counts, RING, value)

    def test_collapses_have_no_ring(self):
        for shape in SHAPES:
            self.assertIs(is_loopless(shape, collapse_fully(shape)), True)

    def test_no_complex(self):
        for value in ODD_VALUES + ((),):
            if not isinstance(value, Complex):
                self.assert_raises(NotComplex(), is_loopless, value, ())
                self.assert_raises(NotComplex(), critical_counts, value, None)


class Critical(Judge, unittest.TestCase):
    def test_by_definition(self):
        for shape, pairs in MATCHINGS:
            if has_ring(pairs):
                self.assert_raises(BadMatching(), critical_counts, shape, pairs)
                continue
            left = faces(shape) - {simplex for pair in pairs for simplex in pair}
            wanted = tuple(sum(len(simplex) == k + 1 for simplex in left) for k in range(len(counts_of(shape))))
            self.assertEqual(critical_counts(shape, pairs), wanted)
            # They have the Euler number of the complex.
            self.assertEqual(sum((-1) ** k * number for k, number in enumerate(wanted)) - 1, euler_of(shape))

    def test_as_many_as_holes(self):
        for shape, pairs in MATCHINGS:
            if not has_ring(pairs) and shape.facets:
                for degree, number in enumerate(critical_counts(shape, pairs)):
                    for prime in PRIMES:
                        self.assertGreaterEqual(number, holes_mod(shape, degree, prime) + (1 if degree == 0 else 0))

    def test_known_ones(self):
        self.assertEqual([critical_counts(EMPTY, ()), critical_counts(POINT, ())], [(), (1,)])
        self.assertEqual(critical_counts(RING, AROUND[:2]), (1, 1))
        self.assertEqual(critical_counts(FULL, ()), counts_of(FULL))
        # Each simplex without the vertex 0 with the one that has it, too: only the vertex 0 is left.
        cone = tuple((simplex, (0,) + simplex) for simplex in sorted(faces(FULL)) if 0 not in simplex)
        self.assertEqual(critical_counts(FULL, cone), (1, 0, 0, 0, 0, 0, 0, 0))
        self.assertEqual(critical_counts(Complex(((0, 1),)), (((0,), (0, 1)),)), (1, 0))
        self.assert_raises(BadMatching(), critical_counts, RING, AROUND)

    def test_arguments_stay(self):
        before = faces(RING)
        is_loopless(RING, AROUND), critical_counts(RING, AROUND[1:])
        self.assertEqual((faces(RING), AROUND[0]), (before, ((0,), (0, 1))))


if __name__ == "__main__":
    unittest.main()
