"""Points 10 and 11."""

import random
import unittest

from judges import (
    BAD_PRIMES, EMPTY, FULL, KLEIN, ODD_VALUES, PRIMES, PROJECTIVE, RING, TORUS, Judge, border, border_of_chain, closed,
    faces, grid_surface, is_chain, moore, moved_by)
from shapeholes.chains import boundary
from shapeholes.complexes import Complex, euler_of, simplices_of
from shapeholes.errors import BadChain, BadDegree, BadPrime, NotComplex, NotCycle
from shapeholes.holes import filling, holes, holes_mod, reading
from shapeholes.parts import join, skeleton, union

DEGREES = range(-1, 8)
TWO_POINTS = Complex(((0,), (30,)))


def all_holes(shape):
    """The holes that are there, by degree."""
    found = {degree: holes(shape, degree) for degree in DEGREES}
    return {degree: found[degree] for degree in DEGREES if found[degree] != (0, ())}


def some_shape(seed):
    source = random.Random(seed)
    return Complex(tuple(tuple(sorted(source.sample(range(8), source.randint(1, 4)))) for _ in range(9)))


class Holes(Judge, unittest.TestCase):
    def test_known_ones(self):
        for shape, wanted in (
                (EMPTY, {-1: (1, ())}), (FULL, {}), (Complex(((7,),)), {}), (TWO_POINTS, {0: (1, ())}),
                (RING, {1: (1, ())}), (skeleton(FULL, 6), {6: (1, ())}), (skeleton(FULL, 2), {2: (35, ())}),
                (TORUS, {1: (2, ()), 2: (1, ())}), (grid_surface(3, 4, False), {1: (2, ()), 2: (1, ())}),
                (PROJECTIVE, {1: (0, (2,))}), (KLEIN, {1: (1, (2,))}), (moore(3), {1: (0, (3,))}),
                (moore(4), {1: (0, (4,))}), (moore(5), {1: (0, (5,))})):
            self.assertEqual(all_holes(shape), wanted)

    def test_torsion_of_several(self):
        two, three = PROJECTIVE, moved_by(moore(3), 6)
        self.assertEqual(all_holes(union(two, three)), {0: (1, ()), 1: (0, (6,))})
        both = union(two, moved_by(two, 6))
        self.assertEqual(all_holes(both), {0: (1, ()), 1: (0, (2, 2))})
        self.assertEqual(all_holes(union(both, moved_by(moore(3), 12))), {0: (2, ()), 1: (0, (2, 6))})
        self.assertEqual(all_holes(union(two, moved_by(moore(4), 6))), {0: (1, ()), 1: (0, (2, 4))})

    def test_torsion_of_other_degrees(self):
        self.assertEqual(all_holes(join(PROJECTIVE, Complex(((6,), (7,))))), {2: (0, (2,))})
        self.assertEqual(all_holes(join(PROJECTIVE, Complex(((6,),)))), {})

    def test_by_primes(self):
        self.assertEqual([[holes_mod(PROJECTIVE, degree, prime) for degree in range(-1, 4)] for prime in PRIMES],
                         [[0, 0, 1, 1, 0], [0] * 5, [0] * 5, [0] * 5])
        self.assertEqual([holes_mod(moore(3), 1, prime) for prime in PRIMES], [0, 1, 0, 0])
        self.assertEqual([holes_mod(moore(5), 2, prime) for prime in PRIMES], [0, 0, 1, 0])
        for prime in PRIMES:
            self.assertEqual([holes_mod(EMPTY, degree, prime) for degree in DEGREES], [1] + [0] * 8)
            self.assertEqual([holes_mod(FULL, degree, prime) for degree in DEGREES], [0] * 9)
            self.assertEqual(holes_mod(skeleton(FULL, 6), 6, prime), 1)

    def test_random_ones_agree(self):
        """By a prime a cyclic part of an order that it divides counts twice: in its degree and the one above."""
        shapes = [some_shape(seed) for seed in range(25)] + [KLEIN, TORUS, PROJECTIVE, moore(3), moore(5), EMPTY]
        for shape in shapes:
            found = {degree: holes(shape, degree) for degree in DEGREES}
            self.assertEqual(euler_of(shape), sum(found[k][0] * (1 if k % 2 == 0 else -1) for k in DEGREES))
            for prime in PRIMES:
                for degree in DEGREES:
                    orders = found[degree][1] + found.get(degree - 1, (0, ()))[1]
                    twisted = sum(order % prime == 0 for order in orders)
                    self.assertEqual(holes_mod(shape, degree, prime), found[degree][0] + twisted)

    def test_errors(self):
        for value in ODD_VALUES + ((),):
            self.assert_raises(NotComplex(), holes, value, 8)
            self.assert_raises(NotComplex(), holes_mod, value, 8, 4)
        for value in (-2, 8, True, False, None, "0", (0,), [], RING):
            self.assert_raises(BadDegree(), holes, RING, value)
            self.assert_raises(BadDegree(), holes_mod, RING, value, 4)
        for value in BAD_PRIMES:
            self.assert_raises(BadPrime(), holes_mod, RING, 7, value)


class Filling(Judge, unittest.TestCase):
    def judge(self, shape, cycle):
        found = filling(shape, cycle)
        self.assertTrue(is_chain(found))
        self.assertTrue({simplex for simplex, _ in found} <= faces(shape))
        self.assertEqual(border_of_chain(found), dict(cycle))

    def test_example(self):
        cycle = (((0, 1), 1), ((0, 2), -1), ((1, 2), 1))
        self.assertEqual(
            [holes(RING, 0), holes(RING, 1), filling(RING, cycle), filling(Complex(((0, 1, 2),)), cycle)],
            [(0, ()), (1, ()), None, (((0, 1, 2), 1),)])

    def test_boundaries_are_filled(self):
        for seed in range(50):
            source = random.Random(seed)
            shape = [some_shape(seed), FULL, PROJECTIVE, KLEIN, moore(3)][seed % 5]
            length = source.choice([len(facet) for facet in shape.facets])
            cells = [simplex for simplex in simplices_of(shape) if len(simplex) == length]
            chosen = sorted(source.sample(cells, min(len(cells), 5)))
            chain = tuple((simplex, source.choice([-10 ** 20, -2, 1, 3, 5])) for simplex in chosen)
            self.judge(shape, boundary(chain))

    def test_only_multiples_are_boundaries(self):
        for shape, order, ring in ((PROJECTIVE, 2, None), (moore(3), 3, (0, 1, 2)), (moore(5), 5, (0, 1, 2))):
            a, b, c = ring or self.odd_ring(shape)
            for factor in range(-12, 13):
                cycle = tuple(pair for pair in (((a, b), factor), ((a, c), -factor), ((b, c), factor)) if factor)
                if factor % order == 0:
                    self.judge(shape, cycle)
                else:
                    self.assertIsNone(filling(shape, cycle))

    def odd_ring(self, shape):
        """Three vertices with all edges that bound no triangle and are not filled."""
        edges = faces(shape)
        return next((a, b, c) for a in range(6) for b in range(a + 1, 6) for c in range(b + 1, 6)
                    if {(a, b), (a, c), (b, c)} <= edges and (a, b, c) not in edges)

    def test_points_and_nothing(self):
        for shape in (EMPTY, RING, FULL):
            self.judge(shape, ())
        self.assertIsNone(filling(EMPTY, (((), 4),)))
        self.judge(RING, (((), -4),))
        self.judge(Complex(((30,),)), (((), 10 ** 30),))
        self.judge(RING, (((0,), 3), ((1,), -1), ((2,), -2)))
        self.assertIsNone(filling(TWO_POINTS, (((0,), 1), ((30,), -1))))
        self.judge(Complex(((0, 30),)), (((0,), 1), ((30,), -1)))

    def test_high_degrees(self):
        cycle = boundary(((tuple(range(8)), 2),))
        self.judge(FULL, cycle)
        self.assertIsNone(filling(skeleton(FULL, 6), cycle))

    def test_errors(self):
        check_chain_errors(self, filling)


class Reading(Judge, unittest.TestCase):
    def judge(self, shape, cycle, prime):
        found = reading(shape, cycle, prime)
        self.assertIsInstance(found, tuple)
        self.assertTrue(is_chain(found))
        self.assertTrue(all(0 < number < prime for _, number in found))
        length = len(cycle[0][0])
        numbers = dict(found)
        self.assertTrue({len(simplex) for simplex in numbers} == {length})
        self.assertTrue(set(numbers) <= faces(shape) | {()})
        for simplex in faces(shape):
            self.assertEqual(sum(sign * numbers.get(face, 0) for face, sign in border(simplex)) % prime, 0)
        self.assertNotEqual(sum(number * numbers.get(simplex, 0) for simplex, number in cycle) % prime, 0)

    def test_rings(self):
        for prime in PRIMES:
            for factor in (1, -1, 10 ** 20 + 1, 11):
                cycle = (((0, 1), factor), ((0, 2), -factor), ((1, 2), factor))
                if factor % prime:
                    self.judge(RING, cycle, prime)
                    self.assertIsNone(reading(Complex(((0, 1, 2),)), cycle, prime))
            times = (((0, 1), prime), ((0, 2), -prime), ((1, 2), prime))
            self.assertIsNone(reading(RING, times, prime))

    def test_torsion(self):
        cycle = (((0, 1), 1), ((0, 2), -1), ((1, 2), 1))
        for order in (3, 5):
            for prime in PRIMES:
                if prime == order:
                    self.judge(moore(order), cycle, prime)
                else:
                    self.assertIsNone(reading(moore(order), cycle, prime))
        self.assertIsNone(reading(moore(3), tuple((simplex, 3 * number) for simplex, number in cycle), 3))

    def test_sums_of_boundaries(self):
        for seed in range(40):
            source = random.Random(seed)
            shape, prime = [RING, KLEIN, TORUS, moore(3)][seed % 4], PRIMES[source.randint(0, 3)]
            cells = [simplex for simplex in simplices_of(shape) if len(simplex) == 3]
            chosen = sorted(source.sample(cells, min(len(cells), 4)))
            self.assertIsNone(reading(shape, boundary(tuple((cell, source.choice([-3, 1, 2])) for cell in chosen)), prime))

    def test_agrees_with_counts(self):
        """A cycle that is added as a boundary takes a hole away just if a number reads it."""
        for seed in range(30):
            shape = some_shape(seed)
            for prime in PRIMES:
                for a, b, c in ((0, 1, 2), (1, 3, 4), (2, 5, 7)):
                    cycle = (((a, b), 1), ((a, c), -1), ((b, c), 1))
                    if not {(a, b), (a, c), (b, c)} <= faces(shape):
                        continue
                    if (a, b, c) in shape:
                        self.assertIsNone(reading(shape, cycle, prime))
                        continue
                    more = Complex(tuple(closed(shape.facets + ((a, b, c),))))
                    if holes_mod(more, 1, prime) < holes_mod(shape, 1, prime):
                        self.judge(shape, cycle, prime)
                    else:
                        self.assertIsNone(reading(shape, cycle, prime))

    def test_points_and_nothing(self):
        for prime in PRIMES:
            self.assertIsNone(reading(EMPTY, (), prime))
            self.assertIsNone(reading(TORUS, (), prime))
            self.judge(EMPTY, (((), 1),), prime)
            self.judge(EMPTY, (((), -1),), prime)
            self.assertIsNone(reading(EMPTY, (((), 2 * prime),), prime))
            self.assertIsNone(reading(RING, (((), 1),), prime))
            self.judge(TWO_POINTS, (((0,), 1), ((30,), -1)), prime)
            self.assertIsNone(reading(RING, (((0,), 1), ((2,), -1)), prime))
            cycle = boundary(((tuple(range(8)), 1),))
            self.judge(skeleton(FULL, 6), cycle, prime)
            self.assertIsNone(reading(FULL, cycle, prime))

    def test_cycles_of_integers_only(self):
        self.assert_raises(NotCycle(), reading, RING, (((0, 1), 2),), 2)
        self.assert_raises(NotCycle(), reading, RING, (((0,), 3),), 3)

    def test_errors(self):
        check_chain_errors(self, lambda shape, chain: reading(shape, chain, 4))
        for value in BAD_PRIMES:
            self.assert_raises(BadPrime(), reading, RING, (), value)
            self.assert_raises(BadPrime(), reading, RING, (((), 1),), value)


def check_chain_errors(case, call):
    """The errors of a complex and a chain, in their order."""
    for value in ODD_VALUES + ((),):
        case.assert_raises(NotComplex(), call, value, None)
    for value in (None, True, 3, "", [], {}, RING, ((),) * 401):
        case.assert_raises(BadChain(None), call, RING, value)
    for item in (None, (), ((0, 1), 0), ((0, 1), True), ([0, 1], 1), ((1, 0), 1), ((0, 31), 1), ((), 0), RING):
        case.assert_raises(BadChain(0), call, RING, (item,))
    # What is no chain at all comes first, then what is not of the complex, then what is no cycle.
    case.assert_raises(BadChain(2), call, RING, (((0, 1), 1), ((0, 3), 1), ((0, 2), 1)))
    case.assert_raises(BadChain(1), call, RING, (((0, 1), 1), ((0, 3), 1), ((0, 4), 1)))
    case.assert_raises(BadChain(0), call, RING, (((0, 1, 2), 1),))
    case.assert_raises(BadChain(0), call, EMPTY, (((0,), 1), ((1,), -1)))
    case.assert_raises(NotCycle(), call, RING, (((0, 1), 1),))
    case.assert_raises(NotCycle(), call, RING, (((0, 1), 1), ((0, 2), -1), ((1, 2), 2)))
    case.assert_raises(NotCycle(), call, RING, (((0,), 1), ((1,), 1)))
    case.assert_raises(NotCycle(), call, FULL, ((tuple(range(8)), 1),))


if __name__ == "__main__":
    unittest.main()
