"""Points 40 to 44."""

import random
import unittest
from itertools import permutations, product

from judges import (
    BAD_PRIMES, EMPTY, FULL, KLEIN, ODD_VALUES, PRIMES, PROJECTIVE, RING, TORUS, Judge, border_of_chain, borders, cells,
    cycles, faces, grid_surface, is_chain, moore, rank_by, reduced, with_empty)
from shapeholes.chains import boundary
from shapeholes.complexes import Complex, simplices_of, vertices_of
from shapeholes.errors import BadChain, BadDegree, BadMap, BadPrime, NotComplex, NotOriented
from shapeholes.holes import holes_mod
from shapeholes.maps import (
    are_near, degree_of, fixed_simplices, fundamental, hole_trace, image_of, is_map, lefschetz, map_rank, moved_chain)
from shapeholes.parts import join, skeleton

POINT = Complex(((30,),))
EDGE = Complex(((0, 1),))
TWO = Complex(((3,), (8,)))
SPHERE = skeleton(Complex(((0, 1, 2, 3),)), 2)
HEXAGON = Complex(tuple(tuple(sorted((k, (k + 1) % 6))) for k in range(6)))
GRID = grid_surface(4, 4, False)
BAD_DEGREES = (-2, 8, True, False, None, "0", (0,), [], RING, 10 ** 30)


def itself(shape):
    return tuple((vertex, vertex) for vertex in vertices_of(shape))


def named(shape, images):
    return tuple(zip(vertices_of(shape), images))


def are_map(one, other, names):
    images = dict(names)
    return all(tuple(sorted({images[vertex] for vertex in facet})) in other for facet in one.facets)


def some_shape(source, most=6):
    return Complex(tuple(tuple(sorted(source.sample(range(most), source.randint(1, 4)))) for _ in range(source.randint(0, 6))))


def some_maps():
    """Maps between complexes; many of them bring simplices to fewer vertices."""
    found = [(EMPTY, shape, ()) for shape in (EMPTY, POINT, RING, TORUS)]
    for seed in range(3000):
        source = random.Random(seed)
        one = some_shape(source)
        other = source.choice((one, some_shape(source), some_shape(source)))
        if other.facets:
            names = named(one, [source.choice(vertices_of(other)) for _ in vertices_of(one)])
            if are_map(one, other, names):
                found.append((one, other, names))
    for shape in (POINT, RING, TORUS, PROJECTIVE, KLEIN, FULL, moore(3), GRID, SPHERE):
        found.append((shape, shape, itself(shape)))
        found.append((shape, POINT, named(shape, [30] * 31)))
        found.append((shape, shape, named(shape, vertices_of(shape)[:1] * 31)))
        found.append((Complex(shape.facets[1:]), shape, itself(Complex(shape.facets[1:]))))
    # The torus turned by its seven vertices, and by doubling.
    found += [(TORUS, TORUS, named(TORUS, [(factor * k + step) % 7 for k in range(7)])) for factor in (1, 2, 6) for step in (0, 3)
              if are_map(TORUS, TORUS, named(TORUS, [(factor * k + step) % 7 for k in range(7)]))]
    found += [(HEXAGON, RING, named(HEXAGON, [factor * k % 3 for k in range(6)])) for factor in (0, 1, 2)]
    found += [(GRID, RING_OF_FOUR, named(GRID, [k // 4 for k in range(16)]))]
    return found


RING_OF_FOUR = Complex(((0, 1), (1, 2), (2, 3), (0, 3)))
MAPS = some_maps()
OWN_MAPS = [(one, names) for one, other, names in MAPS if one == other]


def inversions(row):
    return sum(row[k] > row[m] for m in range(len(row)) for k in range(m))


def moved_terms(names, terms):
    """The image of a dict from simplices to numbers, by the definition."""
    images, total = dict(names), {}
    for simplex, number in terms.items():
        row = [images[vertex] for vertex in simplex]
        if len(set(row)) == len(row):
            key = tuple(sorted(row))
            total[key] = total.get(key, 0) + (-1) ** inversions(row) * number
    return {key: number for key, number in total.items() if number}


def some_chain(source, shape):
    degree = source.choice(sorted({len(facet) - 1 for facet in shape.facets} | {-1, 0}))
    found = cells(with_empty(shape), degree)
    return tuple((cell, source.choice((-3, -1, 1, 1, 2, 10 ** 12)))
                 for cell in sorted(source.sample(found, source.randint(0, len(found)))))


def map_errors(case, call):
    """The errors of a function of one, other, names: of the complexes, then of the names."""
    for value in ODD_VALUES:
        if not isinstance(value, Complex):
            case.assert_raises(NotComplex(), call, value, None, None)
            case.assert_raises(NotComplex(), call, RING, value, None)
    for value in bad_names():
        case.assert_raises(BadMap(), call, RING, RING, value)
    case.assert_raises(BadMap(), call, SPHERE, RING, named(SPHERE, (0, 1, 2, 2)))


def bad_names():
    """What are no maps of the ring to itself."""
    return ODD_VALUES + (
        (), ((0, 0), (1, 1)), ((0, 0), (1, 1), (2, 2), (3, 3)), ((0, 0), (2, 2), (1, 1)), ((0, 0), (1, 1), (2, 3)),
        ((0, 0), (1, 1), (2, True)), ((False, 0), (1, 1), (2, 2)), ((0, 0), (1, 1), (2, 2, 2)), ((0, 0), (1, 1), 2),
        [(0, 0), (1, 1), (2, 2)], ([0, 0], [1, 1], [2, 2]), ((0, 0), (1, 1), (2, None)), ((0, 0), (1, 1), (2, [2])),
        ((0, 0), (1, 1), (2, 10 ** 30)), ((0, 0), (1, 1), (2, -1)), {0: 0, 1: 1, 2: 2})


class Maps(Judge, unittest.TestCase):
    def test_by_definition(self):
        answers = []
        for seed in range(300):
            source = random.Random(seed)
            one, other = some_shape(source, 4), some_shape(source, 4)
            for images in product(range(4), repeat=len(vertices_of(one))):
                names = named(one, images)
                answers.append(are_map(one, other, names))
                self.assertIs(is_map(one, other, names), answers[-1])
        self.assertGreater(answers.count(True), 100)
        self.assertGreater(answers.count(False), 100)

    def test_known_ones(self):
        self.assertIs(is_map(EMPTY, EMPTY, ()), True)
        self.assertIs(is_map(EMPTY, RING, ()), True)
        self.assertIs(is_map(POINT, EMPTY, ()), False)
        self.assertIs(is_map(POINT, EMPTY, ((30, 30),)), False)
        self.assertIs(is_map(POINT, POINT, ((30, 30),)), True)
        self.assertIs(is_map(FULL, POINT, named(FULL, [30] * 8)), True)
        self.assertIs(is_map(EDGE, TWO, ((0, 3), (1, 8))), False)
        self.assertIs(is_map(EDGE, TWO, ((0, 8), (1, 8))), True)
        for images in permutations(range(3)):
            self.assertIs(is_map(RING, RING, named(RING, images)), True)
        # All edges are there, but not the triangle.
        self.assertIs(is_map(Complex(((0, 1, 2),)), RING, itself(RING)), False)

    def test_of_any_value(self):
        for value in bad_names():
            self.assertIs(is_map(RING, RING, value), False)
        for value in ODD_VALUES:
            self.assertIs(is_map(EMPTY, RING, value), False)
            if not isinstance(value, Complex):
                self.assert_raises(NotComplex(), is_map, value, None, ())
                self.assert_raises(NotComplex(), is_map, RING, value, ())


class Images(Judge, unittest.TestCase):
    def test_image_by_definition(self):
        for one, other, names in MAPS:
            images = dict(names)
            wanted = {tuple(sorted({images[vertex] for vertex in simplex})) for simplex in faces(one)}
            self.assertEqual(faces(image_of(one, other, names)), wanted)

    def test_image_known_ones(self):
        self.assertEqual([image_of(EMPTY, RING, ()), image_of(EMPTY, EMPTY, ())], [EMPTY, EMPTY])
        self.assertEqual(image_of(FULL, POINT, named(FULL, [30] * 8)), POINT)
        self.assertEqual(image_of(RING, TORUS, named(RING, (4, 4, 2))).facets, ((2, 4),))

    def test_image_errors(self):
        map_errors(self, image_of)

    def test_chain_by_definition(self):
        for seed, (one, other, names) in enumerate(MAPS):
            source = random.Random(seed)
            for _ in range(3):
                chain = some_chain(source, one)
                moved = moved_chain(one, other, names, chain)
                self.assertTrue(is_chain(moved))
                self.assertEqual(dict(moved), moved_terms(names, dict(chain)))
                # The image of the boundary is the boundary of the image.
                self.assertEqual(moved_chain(one, other, names, boundary(chain)), boundary(moved))

    def test_chain_known_ones(self):
        turned = ((0, 1), (1, 2), (2, 0))
        cycle = (((0, 1), 1), ((0, 2), -1), ((1, 2), 1))
        self.assertEqual(moved_chain(RING, RING, turned, cycle), cycle)
        self.assertEqual(moved_chain(RING, RING, turned, (((0, 2), 5),)), (((0, 1), -5),))
        self.assertEqual(moved_chain(RING, RING, ((0, 0), (1, 0), (2, 1)), cycle), ())
        self.assertEqual(moved_chain(RING, POINT, named(RING, [30] * 3), (((0,), 2), ((1,), -7))), (((30,), -5),))
        self.assertEqual(moved_chain(RING, POINT, named(RING, [30] * 3), (((0,), 2), ((1,), -2))), ())
        self.assertEqual(moved_chain(RING, RING, turned, ()), ())
        # The empty simplex goes to itself.
        self.assertEqual(moved_chain(RING, RING, turned, (((), 4),)), (((), 4),))
        self.assertEqual(moved_chain(EMPTY, EMPTY, (), (((), -4),)), (((), -4),))
        self.assertEqual(moved_chain(EMPTY, RING, (), (((), -4),)), (((), -4),))
        full = named(FULL, (1, 0, 3, 2, 5, 4, 7, 6))
        self.assertEqual(moved_chain(FULL, FULL, full, ((tuple(range(8)), 1),)), ((tuple(range(8)), 1),))
        full = named(FULL, (1, 2, 3, 4, 5, 6, 7, 0))
        self.assertEqual(moved_chain(FULL, FULL, full, ((tuple(range(8)), 1),)), ((tuple(range(8)), -1),))

    def test_chain_errors(self):
        map_errors(self, lambda one, other, names: moved_chain(one, other, names, None))
        names = itself(RING)
        for value in (None, 3, True, "", [], [((0,), 1)], {}, RING, (((0,), 1),) * 401):
            self.assert_raises(BadChain(None), moved_chain, RING, RING, names, value)
        for value in ODD_VALUES + (((0,), 0), ((0,), True), ((0,), 1, 1), ([0], 1), ((0, 0), 1), ((), 0)):
            self.assert_raises(BadChain(0), moved_chain, RING, RING, names, (value,))
            self.assert_raises(BadChain(1), moved_chain, RING, RING, names, (((0,), 1), value))
        self.assert_raises(BadChain(1), moved_chain, RING, RING, names, (((0,), 1), ((0, 1), 1)))
        self.assert_raises(BadChain(1), moved_chain, RING, RING, names, (((1,), 1), ((0,), 1)))
        # It is a chain, but not one of the ring; that it is a chain comes first.
        self.assert_raises(BadChain(0), moved_chain, RING, RING, names, (((0, 1, 2), 1),))
        self.assert_raises(BadChain(1), moved_chain, RING, RING, names, (((2,), 1), ((3,), 1), ((4,), 1)))
        self.assert_raises(BadChain(2), moved_chain, RING, RING, names, (((2,), 1), ((3,), 1), ((4,), 0)))
        self.assert_raises(BadChain(0), moved_chain, EMPTY, RING, (), (((0,), 1),))


def coordinates(vectors, extra, prime):
    """Numbers with which independent vectors add up to another one."""
    for made in reduced(vectors + [extra], prime)[1]:
        factor = pow(made[len(vectors)], -1, prime)
        return [-factor * made.get(k, 0) % prime for k in range(len(vectors))]
    raise AssertionError("the vectors do not add up to this one")


def independent(vectors, prime):
    """Those of the vectors, in turn, that the ones ahead do not add up to."""
    found = []
    for vector in vectors:
        if rank_by([vector], found, prime):
            found.append(vector)
    return found


def trace_by(shape, names, degree, prime):
    simplices = with_empty(shape)
    nothings = independent(borders(simplices, degree + 1), prime)
    basis = independent(nothings + cycles(simplices, degree, prime), prime)
    return sum(coordinates(basis, moved_terms(names, basis[k]), prime)[k] for k in range(len(nothings), len(basis))) % prime


class Ranks(Judge, unittest.TestCase):
    def test_by_definition(self):
        for at, (one, other, names) in enumerate(MAPS):
            prime = PRIMES[at % 4]
            top = max([len(facet) for facet in one.facets], default=0)
            for degree in range(-1, min(top + 1, 4)):
                moved = [moved_terms(names, cycle) for cycle in cycles(with_empty(one), degree, prime)]
                wanted = rank_by(moved, borders(with_empty(other), degree + 1), prime)
                self.assertEqual(map_rank(one, other, names, degree, prime), wanted)

    def test_known_ones(self):
        for prime in PRIMES:
            for shape in (EMPTY, POINT, RING, TORUS, PROJECTIVE, moore(3), moore(5), TWO, FULL):
                for degree in range(-1, 8):
                    self.assertEqual(map_rank(shape, shape, itself(shape), degree, prime), holes_mod(shape, degree, prime))
            self.assertEqual(map_rank(EMPTY, RING, (), -1, prime), 0)
            # A ring of six vertices twice around one of three.
            twice = named(HEXAGON, [0, 1, 2] * 2)
            self.assertEqual(map_rank(HEXAGON, RING, twice, 1, prime), 0 if prime == 2 else 1)
            self.assertEqual(map_rank(TWO, EDGE, ((3, 0), (8, 1)), 0, prime), 0)
            self.assertEqual(map_rank(GRID, RING_OF_FOUR, named(GRID, [k // 4 for k in range(16)]), 1, prime), 1)
        ball = skeleton(FULL, 6)
        self.assertEqual([map_rank(ball, ball, itself(ball), degree, 7) for degree in (5, 6, 7)], [0, 1, 0])

    def test_errors(self):
        map_errors(self, lambda one, other, names: map_rank(one, other, names, 9, 4))
        for value in BAD_DEGREES:
            self.assert_raises(BadDegree(), map_rank, RING, RING, itself(RING), value, 4)
        for value in BAD_PRIMES:
            self.assert_raises(BadPrime(), map_rank, RING, RING, itself(RING), 7, value)
            self.assert_raises(BadPrime(), map_rank, EMPTY, EMPTY, (), -1, value)


class Traces(Judge, unittest.TestCase):
    def test_by_definition(self):
        for at, (shape, names) in enumerate(OWN_MAPS):
            prime = PRIMES[at % 4]
            top = max([len(facet) for facet in shape.facets], default=0)
            if len(shape.facets) < 30:
                for degree in range(-1, min(top + 1, 4)):
                    self.assertEqual(hole_trace(shape, names, degree, prime), trace_by(shape, names, degree, prime))

    def test_sum_of_traces(self):
        """With signs, the traces add up to lefschetz less 1."""
        for shape, names in OWN_MAPS:
            for prime in PRIMES:
                total = sum((-1) ** degree * hole_trace(shape, names, degree, prime) for degree in range(-1, 8))
                self.assertEqual((total - lefschetz(shape, names) + 1) % prime, 0)

    def test_known_ones(self):
        for prime in PRIMES:
            for shape in (EMPTY, POINT, RING, TORUS, PROJECTIVE, KLEIN, moore(3), moore(5)):
                for degree in range(-1, 8):
                    self.assertEqual(hole_trace(shape, itself(shape), degree, prime), holes_mod(shape, degree, prime) % prime)
            turned = ((0, 1), (1, 0), (2, 2))
            self.assertEqual(hole_trace(RING, turned, 1, prime), prime - 1)
            self.assertEqual(hole_trace(TWO, ((3, 8), (8, 3)), 0, prime), prime - 1)
            points = Complex(tuple((k,) for k in range(9)))
            self.assertEqual(hole_trace(points, itself(points), 0, prime), 8 % prime)
            self.assertEqual([hole_trace(EMPTY, (), degree, prime) for degree in (-1, 0, 7)], [1, 0, 0])

    def test_errors(self):
        own_map_errors(self, lambda shape, names: hole_trace(shape, names, 9, 4))
        for value in BAD_DEGREES:
            self.assert_raises(BadDegree(), hole_trace, RING, itself(RING), value, 4)
        for value in BAD_PRIMES:
            self.assert_raises(BadPrime(), hole_trace, RING, itself(RING), 7, value)
            self.assert_raises(BadPrime(), hole_trace, EMPTY, (), -1, value)


def own_map_errors(case, call):
    for value in ODD_VALUES:
        if not isinstance(value, Complex):
            case.assert_raises(NotComplex(), call, value, None)
    for value in bad_names():
        case.assert_raises(BadMap(), call, RING, value)
    case.assert_raises(BadMap(), call, EMPTY, None)


class Fixed(Judge, unittest.TestCase):
    def test_by_definition(self):
        fixed = []
        for shape, names in OWN_MAPS:
            images = dict(names)
            wanted = [simplex for simplex in simplices_of(shape) if {images[vertex] for vertex in simplex} == set(simplex)]
            total = sum((-1) ** (len(simplex) - 1 + inversions([images[vertex] for vertex in simplex])) for simplex in wanted)
            self.assertEqual(fixed_simplices(shape, names), wanted)
            self.assertEqual(lefschetz(shape, names), total)
            fixed.append(bool(wanted))
        self.assertIn(True, fixed)

    def test_no_fixed_simplex(self):
        turned = named(TORUS, [(k + 1) % 7 for k in range(7)])
        found = [(RING, ((0, 1), (1, 2), (2, 0))), (TORUS, turned), (HEXAGON, named(HEXAGON, (3, 4, 5, 0, 1, 2))),
                 (TWO, ((3, 8), (8, 3))), (EMPTY, ())]
        for shape, names in found:
            self.assertEqual([fixed_simplices(shape, names), lefschetz(shape, names)], [[], 0])

    def test_known_ones(self):
        self.assertEqual([lefschetz(shape, itself(shape)) for shape in (EMPTY, POINT, RING, TORUS, PROJECTIVE, SPHERE)],
                         [0, 1, 0, 0, 1, 2])
        self.assertEqual(lefschetz(SPHERE, named(SPHERE, (1, 0, 2, 3))), 0)
        self.assertEqual(fixed_simplices(SPHERE, named(SPHERE, (1, 0, 2, 3))), [(2,), (3,), (0, 1), (2, 3), (0, 1, 2), (0, 1, 3)])
        self.assertEqual(fixed_simplices(RING, ((0, 1), (1, 1), (2, 1))), [(1,)])
        self.assertEqual(lefschetz(Complex(((0, 1, 2),)), ((0, 1), (1, 2), (2, 0))), 1)

    def test_errors(self):
        own_map_errors(self, lefschetz)
        own_map_errors(self, fixed_simplices)

    def test_lists_are_new(self):
        fixed_simplices(RING, itself(RING)).clear()
        self.assertEqual(fixed_simplices(RING, itself(RING)), simplices_of(RING))


class Near(Judge, unittest.TestCase):
    def test_by_definition(self):
        answers = []
        for seed in range(600):
            source = random.Random(seed)
            one, other = some_shape(source, 4), some_shape(source, 4)
            found = [named(one, images) for images in product(vertices_of(other), repeat=len(vertices_of(one)))]
            found = [names for names in found if are_map(one, other, names)]
            for _ in range(5):
                if found:
                    first, second = dict(source.choice(found)), dict(source.choice(found))
                    around = faces(other)
                    wanted = all(tuple(sorted({images[vertex] for images in (first, second) for vertex in simplex})) in around
                                 for simplex in faces(one))
                    self.assertIs(are_near(one, other, tuple(first.items()), tuple(second.items())), wanted)
                    answers.append(wanted)
        self.assertGreater(answers.count(True), 100)
        self.assertGreater(answers.count(False), 100)

    def test_known_ones(self):
        self.assertIs(are_near(EMPTY, RING, (), ()), True)
        for one, other, names in MAPS:
            self.assertIs(are_near(one, other, names, names), True)
        self.assertIs(are_near(POINT, RING, ((30, 0),), ((30, 1),)), True)
        self.assertIs(are_near(POINT, TWO, ((30, 3),), ((30, 8),)), False)
        self.assertIs(are_near(RING, RING, itself(RING), ((0, 1), (1, 2), (2, 0))), False)
        self.assertIs(are_near(RING, FULL, itself(RING), ((0, 7), (1, 6), (2, 5))), True)

    def test_same_holes(self):
        """Near maps do the same to holes."""
        cone = join(RING, POINT)
        for names in (itself(RING), ((0, 30), (1, 30), (2, 30)), ((0, 30), (1, 1), (2, 2))):
            self.assertIs(are_near(RING, cone, itself(RING), names), True)
            self.assertEqual(map_rank(RING, cone, names, 1, 3), 0)

    def test_errors(self):
        map_errors(self, lambda one, other, names: are_near(one, other, names, itself(RING)))
        map_errors(self, lambda one, other, names: are_near(one, other, names, None))
        for value in bad_names():
            self.assert_raises(BadMap(), are_near, RING, RING, itself(RING), value)


def are_fundamental(shape, chain):
    """Whether a chain is the fundamental one, by the definition."""
    return (tuple(simplex for simplex, _ in chain) == shape.facets and chain[0][1] == 1
            and {abs(number) for _, number in chain} == {1} and not border_of_chain(chain))


def has_fundamental(shape):
    """By all signs, for few facets."""
    if not shape.facets or len({len(facet) for facet in shape.facets}) > 1:
        return False
    holders = {}
    for facet in shape.facets:
        for vertex in facet:
            holders.setdefault(tuple(k for k in facet if k != vertex), []).append(facet)
    if any(len(found) != 2 for found in holders.values()):
        return False
    reached = [shape.facets[0]]
    for facet in reached:
        reached += [other for found in holders.values() if facet in found for other in found if other not in reached]
    if set(reached) != set(shape.facets):
        return False
    return any(are_fundamental(shape, tuple(zip(shape.facets, (1,) + signs)))
               for signs in product((1, -1), repeat=len(shape.facets) - 1))


class Fundamental(Judge, unittest.TestCase):
    def test_by_definition(self):
        small = [some_shape(random.Random(seed), 4) for seed in range(200)] + [
            skeleton(Complex((tuple(range(size)),)), size - 2) for size in range(2, 7)] + [
            EMPTY, POINT, EDGE, TWO, RING, HEXAGON, PROJECTIVE, join(TWO, Complex(((1,), (2,)))), join(TWO, RING),
            Complex(RING.facets + ((3, 4), (4, 5), (3, 5))), Complex(RING.facets + ((2, 3), (3, 4), (2, 4))),
            Complex(((0,), (1,), (2,))), Complex(RING.facets + ((0, 3),)), Complex(RING.facets + ((3,),))]
        answers = []
        for shape in small:
            if len(shape.facets) <= 12:
                chain = fundamental(shape)
                answers.append(has_fundamental(shape))
                self.assertEqual(chain is not None, answers[-1])
                self.assertTrue(chain is None or are_fundamental(shape, chain))
        self.assertGreater(answers.count(True), 10)
        self.assertGreater(answers.count(False), 100)

    def test_known_ones(self):
        for shape in (EMPTY, POINT, EDGE, FULL, PROJECTIVE, KLEIN, moore(3), Complex(TORUS.facets[1:]), skeleton(FULL, 5)):
            self.assertIsNone(fundamental(shape))
        self.assertEqual(fundamental(TWO), (((3,), 1), ((8,), -1)))
        self.assertEqual(fundamental(RING), (((0, 1), 1), ((0, 2), -1), ((1, 2), 1)))
        for shape in (SPHERE, TORUS, GRID, HEXAGON, skeleton(FULL, 6), join(join(RING, moved(RING, 3)), moved(TWO, 10))):
            self.assertTrue(are_fundamental(shape, fundamental(shape)))

    def test_hanging_together(self):
        """Two spheres, apart or with one common vertex or edge."""
        for shift in (4, 3):
            self.assertIsNone(fundamental(Complex(SPHERE.facets + moved(SPHERE, shift).facets)))
        self.assertIsNone(fundamental(Complex(SPHERE.facets + moved(SPHERE, 2).facets)))

    def test_no_complex(self):
        for value in ODD_VALUES + ((),):
            if not isinstance(value, Complex):
                self.assert_raises(NotComplex(), fundamental, value)


def moved(shape, many):
    return Complex(tuple(tuple(vertex + many for vertex in facet) for facet in shape.facets))


class Degrees(Judge, unittest.TestCase):
    def test_by_definition(self):
        degrees = set()
        found = [(HEXAGON, RING), (HEXAGON, HEXAGON), (RING, RING), (SPHERE, SPHERE), (TWO, TWO), (RING_OF_FOUR, RING)]
        for one, other in found:
            for images in product(vertices_of(other), repeat=len(vertices_of(one))):
                names = named(one, images)
                if are_map(one, other, names):
                    degree = degree_of(one, other, names)
                    degrees.add(degree)
                    wanted = {facet: degree * sign for facet, sign in fundamental(other) if degree}
                    self.assertEqual(moved_terms(names, dict(fundamental(one))), wanted)
        self.assertEqual(degrees, {-2, -1, 0, 1, 2})

    def test_known_ones(self):
        self.assertEqual([degree_of(SPHERE, SPHERE, named(SPHERE, images)) for images in ((0, 1, 2, 3), (1, 0, 2, 3), (0, 0, 2, 3))],
                         [1, -1, 0])
        self.assertEqual(degree_of(TORUS, TORUS, named(TORUS, [(2 * k) % 7 for k in range(7)])) in (1, -1), True)
        self.assertEqual(degree_of(GRID, GRID, itself(GRID)), 1)
        self.assertEqual(degree_of(TWO, TWO, ((3, 8), (8, 3))), -1)
        self.assertEqual(degree_of(TWO, TWO, ((3, 8), (8, 8))), 0)
        long = Complex(tuple(tuple(sorted((k, (k + 1) % 27))) for k in range(27)))
        self.assertEqual(degree_of(long, RING, named(long, [k % 3 for k in range(27)])), 9)
        self.assertEqual(degree_of(long, RING, named(long, [-k % 3 for k in range(27)])), -9)

    def test_errors(self):
        for value in ODD_VALUES:
            if not isinstance(value, Complex):
                self.assert_raises(NotComplex(), degree_of, value, None, None)
                self.assert_raises(NotComplex(), degree_of, RING, value, None)
        for value in bad_names():
            self.assert_raises(BadMap(), degree_of, RING, RING, value)
        for shape in (EMPTY, POINT, PROJECTIVE, FULL):
            self.assert_raises(NotOriented(), degree_of, shape, shape, itself(shape))
            self.assert_raises(NotOriented(), degree_of, EMPTY, shape, ())
        self.assert_raises(NotOriented(), degree_of, RING, POINT, named(RING, [30] * 3))
        self.assert_raises(NotOriented(), degree_of, TWO, RING, ((3, 0), (8, 1)))
        self.assert_raises(NotOriented(), degree_of, RING, SPHERE, itself(RING))
        self.assert_raises(NotOriented(), degree_of, SPHERE, RING, named(SPHERE, (0, 0, 1, 1)))

    def test_order_of_errors(self):
        """Errors of the complexes come ahead of those of the names."""
        self.assert_raises(NotOriented(), degree_of, PROJECTIVE, RING, None)
        self.assert_raises(NotOriented(), degree_of, RING, PROJECTIVE, None)
        self.assert_raises(NotOriented(), degree_of, RING, SPHERE, None)
        self.assert_raises(BadMap(), degree_of, RING, RING, None)


class Arguments(unittest.TestCase):
    def test_arguments_stay(self):
        names, chain = itself(TORUS), (((0,), 1), ((1,), -1))
        before = simplices_of(TORUS)
        is_map(TORUS, TORUS, names), image_of(TORUS, TORUS, names), moved_chain(TORUS, TORUS, names, chain)
        map_rank(TORUS, TORUS, names, 1, 2), hole_trace(TORUS, names, 1, 2), lefschetz(TORUS, names)
        fixed_simplices(TORUS, names), are_near(TORUS, TORUS, names, names), degree_of(TORUS, TORUS, names)
        self.assertEqual([simplices_of(TORUS), names, chain], [before, itself(TORUS), (((0,), 1), ((1,), -1))])

    def test_examples(self):
        turned, flipped = ((0, 1), (1, 2), (2, 0)), ((0, 1), (1, 0), (2, 2))
        ring = Complex(((0, 1), (1, 2), (0, 2)))
        self.assertEqual([lefschetz(ring, turned), degree_of(ring, ring, turned), degree_of(ring, ring, flipped),
                          hole_trace(ring, flipped, 1, 5)], [0, 1, -1, 4])
        self.assertEqual([lefschetz(ring, flipped), fixed_simplices(ring, flipped)], [2, [(2,), (0, 1)]])


if __name__ == "__main__":
    unittest.main()
