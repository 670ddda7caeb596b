"""Points 37, 38 and of point 39 is_monotone and are_fibers_clean."""

import random
import unittest
from itertools import combinations, product

from judges import BAD_PRIMES, EMPTY, FULL, ODD_VALUES, PRIMES, RING, Judge, all_parts, faces, holes_by
from shapeholes.complexes import Complex, euler_of
from shapeholes.errors import BadImages, BadInterval, BadPoint, BadPrime, BadRelation, NotPoset
from shapeholes.holes import holes_mod
from shapeholes.posets import (
    Poset, are_fibers_clean, chains_shape, interval_shape, is_monotone, moebius)

NOTHING = Poset(0, ())
POINT = Poset(1, ())
LINE = Poset(8, tuple((k, k + 1) for k in range(7)))
LOOSE = Poset(8, ())
DIAMOND = Poset(4, ((0, 1), (0, 2), (1, 3), (2, 3)))
# Four points in a ring, two below two.
CROWN = Poset(4, ((0, 2), (0, 3), (1, 2), (1, 3)))
BAD_POINTS = (-1, True, False, None, "0", (0,), [], {}, RING, POINT, 10 ** 30)
NO_POSETS = ODD_VALUES + ((), RING, FULL)


def some_pairs(seed):
    """Some pairs without a ring among points that do not stand in their order."""
    source = random.Random(seed)
    many = source.randint(0, 8)
    order = source.sample(range(many), many)
    pairs = [pair for pair in combinations(order, 2) if source.random() < source.choice((0.1, 0.3, 0.6))]
    return many, tuple(source.sample(pairs, len(pairs)))


SOME = [some_pairs(seed) for seed in range(80)]
POSETS = [Poset(*pairs) for pairs in SOME] + [NOTHING, POINT, LINE, LOOSE, DIAMOND, CROWN]


def reached(pairs, start):
    """All points to which pairs lead from a point."""
    found, waiting = set(), [start]
    while waiting:
        point = waiting.pop()
        for low, high in pairs:
            if low == point and high not in found:
                found.add(high)
                waiting.append(high)
    return found


def is_chain(poset, points):
    return all(pair in poset.pairs or pair[::-1] in poset.pairs for pair in combinations(points, 2))


class Posets(Judge, unittest.TestCase):
    def test_by_definition(self):
        for many, pairs in SOME:
            poset = Poset(many, pairs)
            wanted = sorted((low, high) for low in range(many) for high in reached(pairs, low))
            self.assertEqual(poset.pairs, tuple(wanted))
            self.assertEqual(poset.points, tuple(range(many)))

    def test_known_ones(self):
        self.assertEqual([NOTHING.points, NOTHING.pairs, POINT.points, POINT.pairs], [(), (), (0,), ()])
        self.assertEqual(Poset(3, ((2, 0), (0, 1))).pairs, ((0, 1), (2, 0), (2, 1)))
        self.assertEqual(LINE.pairs, tuple(combinations(range(8), 2)))
        self.assertEqual(Poset(8, tuple((k + 1, k) for k in range(7))).pairs,
                         tuple((high, low) for high in range(8) for low in range(high)))

    def test_equality(self):
        self.assertTrue(Poset(3, ((0, 1), (1, 2))) == Poset(3, ((1, 2), (0, 2), (0, 1), (0, 1))))
        self.assertFalse(Poset(3, ((0, 1), (1, 2))) != Poset(3, ((1, 2), (0, 1))))
        self.assertFalse(Poset(3, ((0, 1), (1, 2))) == Poset(3, ((0, 1),)))
        self.assertFalse(Poset(3, ((0, 1),)) == Poset(3, ((1, 0),)))
        self.assertFalse(Poset(3, ()) == Poset(4, ()))
        for value in NO_POSETS:
            self.assertFalse(POINT == value)
            self.assertTrue(NOTHING != value)

    def test_number_of_points(self):
        for value in (9,) + BAD_POINTS:
            self.assert_raises(BadPoint(), Poset, value, ())
            self.assert_raises(BadPoint(), Poset, value, None)
        self.assertEqual([len(Poset(many, ()).points) for many in range(9)], list(range(9)))

    def test_number_of_pairs(self):
        again = ((0, 1), (1, 2)) * 32
        self.assertEqual(Poset(3, again).pairs, ((0, 1), (0, 2), (1, 2)))
        self.assert_raises(BadRelation(None), Poset, 3, again + ((0, 1),))
        self.assert_raises(BadRelation(None), Poset, 3, (None,) * 65)
        for value in (None, True, 3, "", [], [(0, 1)], {}, {(0, 1): 1}, POINT):
            self.assert_raises(BadRelation(None), Poset, 3, value)

    def test_bad_pairs(self):
        for value in tuple(value for value in NO_POSETS if value != (1, 0)) + (
                (0, 0), (1, 1), (0, 3), (3, 0), (-1, 0), (0, True), (False, 1), (0, 1, 2), (0,), [0, 1], ("0", "1"),
                (0, None), (0, (1,)), (0, 10 ** 30), ((0, 1), (1, 2)), "01"):
            self.assert_raises(BadRelation(0), Poset, 3, (value,))
            self.assert_raises(BadRelation(2), Poset, 3, ((0, 1), (1, 2), value, None))
            self.assert_raises(BadRelation(63), Poset, 3, ((0, 1),) * 63 + (value,))
        self.assert_raises(BadRelation(0), Poset, 0, ((0, 1),))
        self.assert_raises(BadRelation(0), Poset, 1, ((0, 1),))

    def test_rings(self):
        for pairs in (((0, 1), (1, 0)), ((0, 1), (1, 2), (2, 0)), ((2, 1), (0, 2), (1, 0)), ((1, 2), (2, 1), (0, 1))):
            self.assert_raises(BadRelation(None), Poset, 3, pairs)
            # An item that is no pair comes first.
            self.assert_raises(BadRelation(len(pairs)), Poset, 3, pairs + ((0, 0),))
        self.assert_raises(BadRelation(None), Poset, 8, tuple((k, (k + 1) % 8) for k in range(8)))
        for many, pairs in SOME:
            if pairs and len(pairs) < 64:
                low, high = random.Random(many).choice(Poset(many, pairs).pairs)
                self.assert_raises(BadRelation(None), Poset, many, pairs + ((high, low),))


class Chains(Judge, unittest.TestCase):
    def test_by_definition(self):
        for poset in POSETS:
            wanted = {part for part in all_parts(poset.points) if is_chain(poset, part)}
            self.assertEqual(faces(chains_shape(poset)), wanted)

    def test_known_ones(self):
        self.assertEqual([chains_shape(NOTHING), chains_shape(POINT).facets], [EMPTY, ((0,),)])
        self.assertEqual([chains_shape(LINE), chains_shape(LOOSE).facets], [FULL, tuple((k,) for k in range(8))])
        self.assertEqual(chains_shape(CROWN).facets, ((0, 2), (0, 3), (1, 2), (1, 3)))
        self.assertEqual(chains_shape(Poset(3, ((2, 0), (0, 1)))).facets, ((0, 1, 2),))

    def test_no_poset(self):
        for value in NO_POSETS:
            self.assert_raises(NotPoset(), chains_shape, value)


class Intervals(Judge, unittest.TestCase):
    def test_by_definition(self):
        for poset in POSETS:
            for low, high in product(poset.points, repeat=2):
                if (low, high) in poset.pairs:
                    between = [point for point in poset.points if {(low, point), (point, high)} <= set(poset.pairs)]
                    wanted = {part for part in all_parts(tuple(between)) if is_chain(poset, part)}
                    self.assertEqual(faces(interval_shape(poset, low, high)), wanted)
                else:
                    self.assert_raises(BadInterval(), interval_shape, poset, low, high)

    def test_known_ones(self):
        self.assertEqual(interval_shape(DIAMOND, 0, 3).facets, ((1,), (2,)))
        self.assertEqual(interval_shape(DIAMOND, 0, 1), EMPTY)
        self.assertEqual(interval_shape(LINE, 0, 7).facets, ((1, 2, 3, 4, 5, 6),))
        self.assertEqual(interval_shape(Poset(3, ((2, 0), (0, 1))), 2, 1).facets, ((0,),))

    def test_errors(self):
        for call in (interval_shape, moebius):
            for value in NO_POSETS:
                self.assert_raises(NotPoset(), call, value, None, None)
            for value in (4,) + BAD_POINTS:
                self.assert_raises(BadPoint(), call, DIAMOND, value, None)
                self.assert_raises(BadPoint(), call, DIAMOND, 3, value)
            self.assert_raises(BadPoint(), call, NOTHING, 0, 0)
        self.assert_raises(BadInterval(), interval_shape, POINT, 0, 0)
        self.assert_raises(BadInterval(), interval_shape, DIAMOND, 1, 2)
        self.assert_raises(BadInterval(), interval_shape, DIAMOND, 3, 0)


class Moebius(unittest.TestCase):
    def test_sums(self):
        """The sum over all points from a low one to a high one is 0, but 1 for equal points."""
        for poset in POSETS:
            for low, high in product(poset.points, repeat=2):
                inside = [point for point in poset.points if (low == point or (low, point) in poset.pairs)
                          and (point == high or (point, high) in poset.pairs)]
                self.assertEqual(sum(moebius(poset, low, point) for point in inside), 1 if low == high else 0)
                if not inside:
                    self.assertEqual(moebius(poset, low, high), 0)

    def test_euler(self):
        for poset in POSETS:
            for low, high in poset.pairs:
                self.assertEqual(moebius(poset, low, high), euler_of(interval_shape(poset, low, high)))

    def test_known_ones(self):
        self.assertEqual([moebius(DIAMOND, 0, high) for high in range(4)], [1, -1, -1, 1])
        self.assertEqual([moebius(LINE, 2, high) for high in range(8)], [0, 0, 1, -1, 0, 0, 0, 0])
        bottom = Poset(8, tuple((0, k) for k in range(1, 7)) + tuple((k, 7) for k in range(1, 7)))
        self.assertEqual([moebius(bottom, 0, 7), moebius(bottom, 7, 0), moebius(bottom, 1, 2)], [5, 0, 0])


def are_monotone(one, other, images):
    return all(images[low] == images[high] or (images[low], images[high]) in other.pairs for low, high in one.pairs)


class Monotone(Judge, unittest.TestCase):
    def test_by_definition(self):
        small = [poset for poset in POSETS if len(poset.points) <= 4]
        answers = []
        for one, other in zip(small, small[1:] + small[:1]):
            for images in product(other.points, repeat=len(one.points)):
                answers.append(are_monotone(one, other, images))
                self.assertIs(is_monotone(one, other, images), answers[-1])
        self.assertGreater(answers.count(True), 100)
        self.assertGreater(answers.count(False), 100)

    def test_known_ones(self):
        self.assertIs(is_monotone(NOTHING, NOTHING, ()), True)
        self.assertIs(is_monotone(NOTHING, LINE, ()), True)
        self.assertIs(is_monotone(LINE, POINT, (0,) * 8), True)
        self.assertIs(is_monotone(LINE, LINE, (0, 0, 1, 3, 3, 3, 7, 7)), True)
        self.assertIs(is_monotone(LINE, LINE, tuple(range(7, -1, -1))), False)
        self.assertIs(is_monotone(LOOSE, LINE, tuple(range(7, -1, -1))), True)
        self.assertIs(is_monotone(LINE, LOOSE, tuple(range(8))), False)
        self.assertIs(is_monotone(LINE, LOOSE, (5,) * 8), True)

    def test_of_any_value(self):
        for value in NO_POSETS + ((0, 1), (0, 1, 2, 3, 3), (0, 1, 2, 4), (0, 1, 2, -1), (0, 1, 2, True), (False, 1, 2, 3),
                                  [0, 1, 2, 3], (0, 1, 2, None), (0, 1, 2, "3"), (0, 1, 2, [3]), (0, 1, 2, (3,)), "0123"):
            self.assertIs(is_monotone(DIAMOND, DIAMOND, value), False)
        self.assertIs(is_monotone(DIAMOND, DIAMOND, (0, 1, 2, 3)), True)
        self.assertIs(is_monotone(POINT, NOTHING, (0,)), False)
        self.assertIs(is_monotone(POINT, NOTHING, ()), False)

    def test_no_poset(self):
        for value in NO_POSETS:
            self.assert_raises(NotPoset(), is_monotone, value, None, None)
            self.assert_raises(NotPoset(), is_monotone, POINT, value, None)
            self.assert_raises(NotPoset(), are_fibers_clean, value, None, None, 4)
            self.assert_raises(NotPoset(), are_fibers_clean, POINT, value, None, 4)


class Fibers(Judge, unittest.TestCase):
    def some_maps(self):
        """Monotone maps between some partial orders."""
        found = [(poset, poset, poset.points) for poset in POSETS]
        for seed in range(400):
            source = random.Random(seed)
            one, other = source.choice(POSETS), source.choice(POSETS)
            for _ in range(20):
                images = tuple(source.choice(other.points) for _ in one.points) if other.points else ()
                if len(images) == len(one.points) and are_monotone(one, other, images):
                    found.append((one, other, images))
                    break
        return found

    def test_by_definition(self):
        answers = []
        for at, (one, other, images) in enumerate(self.some_maps()):
            prime = PRIMES[at % 4]
            wanted = True
            for top in other.points:
                fiber = tuple(point for point in one.points if images[point] == top or (images[point], top) in other.pairs)
                chains = {part for part in all_parts(fiber) if is_chain(one, part)} | {()}
                if len(fiber) <= 5:
                    wanted = wanted and not any(holes_by(chains, degree, prime) for degree in range(-1, 6))
                else:
                    shape = Complex(tuple(chains - {()}))
                    wanted = wanted and not any(holes_mod(shape, degree, prime) for degree in range(-1, 8))
            self.assertIs(are_fibers_clean(one, other, images, prime), wanted)
            answers.append(wanted)
        self.assertGreater(answers.count(True), 30)
        self.assertGreater(answers.count(False), 30)

    def test_as_many_holes(self):
        for one, other, images in self.some_maps():
            for prime in (2, 7):
                if are_fibers_clean(one, other, images, prime):
                    for degree in range(-1, 8):
                        self.assertEqual(holes_mod(chains_shape(one), degree, prime),
                                         holes_mod(chains_shape(other), degree, prime))

    def test_known_ones(self):
        self.assertIs(are_fibers_clean(NOTHING, NOTHING, (), 2), True)
        # An empty fiber has a hole of degree -1.
        self.assertIs(are_fibers_clean(NOTHING, POINT, (), 2), False)
        self.assertIs(are_fibers_clean(POINT, Poset(2, ((0, 1),)), (0,), 3), True)
        self.assertIs(are_fibers_clean(POINT, Poset(2, ((0, 1),)), (1,), 3), False)
        self.assertIs(are_fibers_clean(LINE, POINT, (0,) * 8, 5), True)
        self.assertIs(are_fibers_clean(CROWN, POINT, (0,) * 4, 5), False)
        self.assertIs(are_fibers_clean(CROWN, CROWN, (0, 1, 2, 3), 7), True)
        # Only the fiber of the points at most 1 counts, not that of the points at least 0.
        self.assertIs(are_fibers_clean(Poset(3, ((0, 1), (0, 2))), Poset(2, ((0, 1),)), (0, 1, 1), 2), True)
        self.assertIs(are_fibers_clean(Poset(3, ((0, 2), (1, 2))), Poset(2, ((0, 1),)), (0, 0, 1), 2), False)

    def test_errors(self):
        for value in ODD_VALUES + ((), (0, 1, 3, 2), (3, 1, 2, 0), (0, 1, 2, True), [0, 1, 2, 3]):
            self.assert_raises(BadImages(), are_fibers_clean, DIAMOND, Poset(4, ((0, 1), (1, 2), (2, 3))), value, 4)
        for value in BAD_PRIMES:
            self.assert_raises(BadPrime(), are_fibers_clean, DIAMOND, POINT, (0,) * 4, value)
            self.assert_raises(BadPrime(), are_fibers_clean, NOTHING, NOTHING, (), value)

    def test_arguments_stay(self):
        pairs = ((1, 2), (0, 1))
        poset = Poset(3, pairs)
        before = poset.points, poset.pairs
        chains_shape(poset), interval_shape(poset, 0, 2), moebius(poset, 0, 2)
        is_monotone(poset, poset, (0, 1, 2)), are_fibers_clean(poset, poset, (0, 1, 2), 2)
        self.assertEqual((poset.points, poset.pairs), before)
        self.assertEqual(pairs, ((1, 2), (0, 1)))


if __name__ == "__main__":
    unittest.main()
