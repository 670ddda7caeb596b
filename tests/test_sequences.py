"""Points 31, 32, and their errors in point 34."""

import random
import unittest
from itertools import combinations

from judges import (
    BAD_PRIMES, DUNCE, EMPTY, FULL, KLEIN, ODD_VALUES, PRIMES, PROJECTIVE, RING, TORUS, Judge, border, borders, cycles,
    faces, moore, moved_by, rank_by, with_empty)
from shapeholes.complexes import Complex, counts_of, simplices_of
from shapeholes.errors import BadDegree, BadPart, BadPrime, NotComplex
from shapeholes.holes import holes_mod
from shapeholes.parts import join, meet, skeleton, union
from shapeholes.sequences import pair_holes, pair_ranks, union_ranks

BAD_DEGREES = (-1, 8, True, False, None, "0", (0,), [], RING, 10 ** 20)
POINT = Complex(((0,),))
DISK = Complex(((0, 1, 2),))


def some_shape(seed, most=7):
    source = random.Random(seed)
    return Complex(tuple(tuple(sorted(source.sample(range(most), source.randint(1, 4)))) for _ in range(source.randint(0, 8))))


def some_pair(seed):
    source = random.Random(seed)
    shape = some_shape(seed)
    simplices = simplices_of(shape)
    return shape, Complex(tuple(source.sample(simplices, min(len(simplices), source.randint(0, 5)))))


PAIRS = [some_pair(seed) for seed in range(50)] + [
    (EMPTY, EMPTY), (POINT, EMPTY), (POINT, POINT), (RING, EMPTY), (RING, POINT), (RING, RING), (DISK, RING), (DISK, EMPTY),
    (TORUS, skeleton(TORUS, 1)), (PROJECTIVE, skeleton(PROJECTIVE, 1)), (PROJECTIVE, EMPTY), (moore(3), RING), (DUNCE, RING),
    (KLEIN, Complex(KLEIN.facets[:9]))]
TWOS = [(some_shape(seed), some_shape(seed + 500)) for seed in range(50)] + [
    (EMPTY, EMPTY), (POINT, EMPTY), (EMPTY, RING), (RING, RING), (POINT, moved_by(POINT, 30)), (DISK, RING),
    (Complex(PROJECTIVE.facets[:5]), Complex(PROJECTIVE.facets[5:])), (Complex(KLEIN.facets[:16]), Complex(KLEIN.facets[16:])),
    (moore(3), Complex(((0, 1, 2),))), (moore(5), moved_by(RING, 1))]


def holes_of_pair(shape, part, degree, prime):
    """The rank of the chains without those of the part, by the definition."""
    beside = faces(shape) - with_empty(part)
    nothing = with_empty(part)
    return rank_by(cycles(beside, degree, prime, nothing), borders(beside, degree + 1, nothing), prime)


def less(chain, simplices):
    return {simplex: number for simplex, number in chain.items() if simplex not in simplices}


def border_of(chain):
    total = {}
    for simplex, number in chain.items():
        for face, sign in border(simplex):
            total[face] = total.get(face, 0) + sign * number
    return total


def ranks_of_pair(shape, part, degree, prime):
    whole, small = with_empty(shape), with_empty(part)
    first = rank_by(cycles(small, degree, prime), borders(whole, degree + 1), prime)
    second = rank_by([less(cycle, small) for cycle in cycles(whole, degree, prime)],
                     borders(whole - small, degree + 1, small), prime)
    third = rank_by([border_of(cycle) for cycle in cycles(whole - small, degree, prime, small)],
                    borders(small, degree), prime)
    return first, second, third


def tagged(chain, tag):
    return {(tag, simplex): number for simplex, number in chain.items()}


def ranks_of_union(one, other, degree, prime):
    ones, others = with_empty(one), with_empty(other)
    both = ones & others
    twice = [{**tagged(cycle, 1), **tagged(cycle, 2)} for cycle in cycles(both, degree, prime)]
    apart = [tagged(chain, 1) for chain in borders(ones, degree + 1)] + [
        tagged(chain, 2) for chain in borders(others, degree + 1)]
    first = rank_by(twice, apart, prime)
    second = rank_by(cycles(ones, degree, prime) + cycles(others, degree, prime), borders(ones | others, degree + 1), prime)
    # What a cycle has in one, and the rest of it in the other: its boundary is that of both, in the meet.
    third = rank_by([border_of({simplex: cycle[simplex] for simplex in cycle if simplex in ones})
                     for cycle in cycles(ones | others, degree, prime)], borders(both, degree), prime)
    return first, second, third


class PairHoles(Judge, unittest.TestCase):
    def test_by_definition(self):
        for seed, (shape, part) in enumerate(PAIRS):
            for degree in range(5):
                for prime in (2, PRIMES[1 + seed % 3]):
                    self.assertEqual(pair_holes(shape, part, degree, prime), holes_of_pair(shape, part, degree, prime))

    def test_empty_part_and_whole(self):
        for shape in (EMPTY, POINT, RING, TORUS, PROJECTIVE, FULL, DUNCE, Complex(((0,), (5,)))):
            for prime in PRIMES:
                for degree in range(8):
                    # Without the empty simplex each component counts.
                    more = 1 if degree == 0 and shape != EMPTY else 0
                    self.assertEqual(pair_holes(shape, EMPTY, degree, prime), holes_mod(shape, degree, prime) + more)
                    self.assertEqual(pair_holes(shape, shape, degree, prime), 0)

    def test_known_ones(self):
        self.assertEqual([pair_holes(DISK, RING, degree, 2) for degree in range(8)], [0, 0, 1, 0, 0, 0, 0, 0])
        self.assertEqual(pair_holes(FULL, skeleton(FULL, 6), 7, 3), 1)
        self.assertEqual(pair_holes(FULL, skeleton(FULL, 2), 3, 3), 35)
        self.assertEqual([pair_holes(RING, Complex(((0,), (1,), (2,))), degree, 5) for degree in range(3)], [0, 3, 0])
        self.assertEqual([pair_holes(moore(3), RING, 2, prime) for prime in PRIMES], [1, 1, 1, 1])


class Ranks(Judge, unittest.TestCase):
    def test_pairs_by_definition(self):
        for seed, (shape, part) in enumerate(PAIRS):
            for degree in range(5):
                for prime in (2, PRIMES[1 + seed % 3]):
                    self.assertEqual(pair_ranks(shape, part, degree, prime), ranks_of_pair(shape, part, degree, prime))

    def test_unions_by_definition(self):
        for seed, (one, other) in enumerate(TWOS):
            for degree in range(5):
                for prime in (2, PRIMES[1 + seed % 3]):
                    self.assertEqual(union_ranks(one, other, degree, prime), ranks_of_union(one, other, degree, prime))

    def test_pairs_are_exact(self):
        """The rank of what comes and that of what goes on add up to the holes."""
        for shape, part in PAIRS:
            for prime in PRIMES:
                ranks = [pair_ranks(shape, part, degree, prime) for degree in range(8)] + [(0, 0, 0)]
                for degree in range(8):
                    first, second, third = ranks[degree]
                    self.assertEqual(ranks[degree + 1][2] + first, holes_mod(part, degree, prime))
                    self.assertEqual(first + second, holes_mod(shape, degree, prime))
                    self.assertEqual(second + third, pair_holes(shape, part, degree, prime))

    def test_unions_are_exact(self):
        for one, other in TWOS:
            for prime in PRIMES:
                ranks = [union_ranks(one, other, degree, prime) for degree in range(8)] + [(0, 0, 0)]
                for degree in range(8):
                    first, second, third = ranks[degree]
                    self.assertEqual(ranks[degree + 1][2] + first, holes_mod(meet(one, other), degree, prime))
                    self.assertEqual(first + second, holes_mod(one, degree, prime) + holes_mod(other, degree, prime))
                    self.assertEqual(second + third, holes_mod(union(one, other), degree, prime))

    def test_known_pairs(self):
        self.assertEqual([pair_ranks(DISK, RING, degree, 2) for degree in range(4)], [(0, 0, 0), (0, 0, 0), (0, 0, 1), (0, 0, 0)])
        self.assertEqual(pair_ranks(POINT, EMPTY, 0, 2), (0, 0, 1))
        self.assertEqual(pair_ranks(RING, EMPTY, 1, 2), (0, 1, 0))
        self.assertEqual(pair_ranks(RING, RING, 1, 2), (1, 0, 0))
        self.assertEqual([pair_ranks(moore(3), RING, 2, prime) for prime in PRIMES],
                         [(0, 0, 1), (0, 1, 0), (0, 0, 1), (0, 0, 1)])
        self.assertEqual(pair_ranks(FULL, skeleton(FULL, 6), 7, 7), (0, 0, 1))
        for degree in range(8):
            self.assertEqual(pair_ranks(EMPTY, EMPTY, degree, 2), (0, 0, 0))
            self.assertEqual(union_ranks(EMPTY, EMPTY, degree, 2), (0, 0, 0))

    def test_known_unions(self):
        arcs = (Complex(((0, 1), (1, 2))), Complex(((0, 3), (2, 3))))
        self.assertEqual([union_ranks(*arcs, degree, 3) for degree in range(3)], [(0, 0, 0), (0, 0, 1), (0, 0, 0)])
        self.assertEqual(union_ranks(POINT, moved_by(POINT, 1), 0, 2), (0, 0, 1))
        self.assertEqual(union_ranks(RING, RING, 1, 2), (1, 1, 0))
        self.assertEqual(union_ranks(RING, DISK, 1, 2), (1, 0, 0))
        self.assertEqual(union_ranks(FULL, skeleton(FULL, 6), 6, 2), (1, 0, 0))
        self.assertEqual(union_ranks(FULL, FULL, 7, 2), (0, 0, 0))

    def test_unions_of_many_simplices(self):
        """A union may have more simplices than a complex can have."""
        edges = list(combinations(range(31), 2))
        one, other = Complex(tuple(edges[:365])), Complex(tuple(edges[165:]))
        self.assertEqual([counts_of(one)[1], counts_of(other)[1], len(edges)], [365, 300, 465])
        for degree in range(3):
            self.assertEqual(union_ranks(one, other, degree, 5), ranks_of_union(one, other, degree, 5))
        self.assertEqual(sum(union_ranks(one, other, 1, 2)[1:]), 465 - 30)
        balls = FULL, moved_by(FULL, 7)
        self.assertEqual([union_ranks(*balls, degree, 2) for degree in range(8)], [(0, 0, 0)] * 8)
        both = join(TORUS, Complex(tuple((k,) for k in range(7, 13)))), moved_by(FULL, 12)
        for degree in range(5):
            self.assertEqual(union_ranks(*both, degree, 2), ranks_of_union(*both, degree, 2))

    def test_arguments_stay(self):
        before = faces(TORUS), faces(RING)
        union_ranks(TORUS, RING, 1, 2), pair_ranks(DISK, RING, 1, 2), pair_holes(DISK, RING, 1, 2)
        self.assertEqual((faces(TORUS), faces(RING)), before)


class Errors(Judge, unittest.TestCase):
    def test_pairs(self):
        for call in (pair_holes, pair_ranks):
            for value in ODD_VALUES:
                self.assert_raises(NotComplex(), call, value, value, 8, 4)
                self.assert_raises(NotComplex(), call, RING, value, 8, 4)
            for part in (DISK, moved_by(POINT, 3), TORUS, FULL, Complex(((0, 1), (1, 3)))):
                self.assert_raises(BadPart(), call, RING, part, 8, 4)
                self.assert_raises(BadPart(), call, EMPTY, part, 8, 4)
            for value in BAD_DEGREES:
                self.assert_raises(BadDegree(), call, RING, POINT, value, 4)
                self.assert_raises(BadDegree(), call, EMPTY, EMPTY, value, 4)
            for value in BAD_PRIMES:
                self.assert_raises(BadPrime(), call, RING, POINT, 7, value)
                self.assert_raises(BadPrime(), call, EMPTY, EMPTY, 0, value)

    def test_unions(self):
        for value in ODD_VALUES:
            self.assert_raises(NotComplex(), union_ranks, value, RING, 8, 4)
            self.assert_raises(NotComplex(), union_ranks, RING, value, 8, 4)
        for value in BAD_DEGREES:
            self.assert_raises(BadDegree(), union_ranks, RING, TORUS, value, 4)
        for value in BAD_PRIMES:
            self.assert_raises(BadPrime(), union_ranks, RING, TORUS, 7, value)
            self.assert_raises(BadPrime(), union_ranks, RING, TORUS, 0, value)


if __name__ == "__main__":
    unittest.main()
