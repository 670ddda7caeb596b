"""Points 25 to 28."""

import random
import unittest
from itertools import combinations, product
from math import comb

from judges import DUNCE, EMPTY, FULL, KLEIN, ODD_VALUES, PROJECTIVE, RING, TORUS, Judge, all_parts, faces, moved_by
from shapeholes.complexes import Complex, counts_of, euler_of, simplices_of, vertices_of
from shapeholes.counts import are_counts, cascade, compressed, h_numbers, is_even_all, least_shadow
from shapeholes.errors import BadCounts, BadNumber, NotComplex
from shapeholes.parts import join, link, skeleton, union

POINT = Complex(((30,),))
PAIR = Complex(((8,), (9,)))
OCTAHEDRON = Complex(tuple((a, b, c) for a in (0, 1) for b in (2, 3) for c in (4, 5)))


def some_shape(seed, most=8):
    source = random.Random(seed)
    return Complex(tuple(tuple(sorted(source.sample(range(most), source.randint(1, 5)))) for _ in range(seed % 9)))


def pure_shape(seed):
    source = random.Random(seed)
    return Complex(tuple(source.sample(list(combinations(range(5), source.randint(1, 3))), source.randint(2, 5))))


class Numbers(Judge, unittest.TestCase):
    def test_example(self):
        self.assertEqual(
            [h_numbers(Complex(((0, 1, 2), (1, 2, 3)))), cascade(9, 3), least_shadow(9, 3), are_counts((4, 6, 4, 2))],
            [(1, 1, 0, 0), ((4, 3), (3, 2), (2, 1)), 10, False])

    def h_by_polynomial(self, counts):
        """The numbers of the sum of f(i) * (x - 1) ** (d - i), from the greatest power on."""
        total = [0] * (len(counts) + 1)
        for i, count in enumerate((1,) + counts):
            row = [1]
            for _ in range(len(counts) - i):
                row = [a - b for a, b in zip(row + [0], [0] + row)]
            for k, number in enumerate(row):
                total[i + k] += count * number
        return tuple(total)

    def test_by_polynomial(self):
        for shape in [some_shape(seed) for seed in range(60)] + [EMPTY, POINT, FULL, TORUS, PROJECTIVE, KLEIN, DUNCE]:
            self.assertEqual(h_numbers(shape), self.h_by_polynomial(counts_of(shape)))

    def test_known_ones(self):
        self.assertEqual(h_numbers(Complex(((0, 1, 2), (1, 2, 3)))), (1, 1, 0, 0))
        self.assertEqual([h_numbers(EMPTY), h_numbers(POINT), h_numbers(PAIR), h_numbers(RING)],
                         [(1,), (1, 0), (1, 1), (1, 1, 1)])
        self.assertEqual(h_numbers(FULL), (1,) + (0,) * 8)
        self.assertEqual(h_numbers(skeleton(FULL, 6)), (1,) * 8)
        self.assertEqual([h_numbers(OCTAHEDRON), h_numbers(TORUS)], [(1, 3, 3, 1), (1, 4, 10, -1)])

    def test_no_complex(self):
        for value in ODD_VALUES:
            self.assert_raises(NotComplex(), h_numbers, value)
            self.assert_raises(NotComplex(), is_even_all, value)


class Even(Judge, unittest.TestCase):
    def by_definition(self, shape):
        if len({len(facet) for facet in shape.facets}) > 1:
            return False
        all_faces = faces(shape)
        for simplex in all_faces | {()}:
            # The empty simplex of the link is the simplex itself.
            link = [len(face) - len(simplex) for face in all_faces | {()} if set(simplex) <= set(face)]
            euler = sum(1 if length % 2 else -1 for length in link)
            if euler != (1 if max(link) % 2 else -1):
                return False
        return True

    def test_by_definition(self):
        shapes = [some_shape(seed, 5) for seed in range(60)] + [pure_shape(seed) for seed in range(150)] + [
            EMPTY, POINT, PAIR, RING, TORUS, PROJECTIVE, KLEIN, OCTAHEDRON, FULL]
        answers = []
        for shape in shapes:
            answers.append(self.by_definition(shape))
            self.assertIs(is_even_all(shape), answers[-1], shape.facets)
            if answers[-1]:
                self.assertEqual(h_numbers(shape), h_numbers(shape)[::-1])
        self.assertGreater(answers.count(True), 5)

    def test_known_ones(self):
        spheres = [Complex(tuple(combinations(range(k), k - 1))) for k in range(2, 9)]
        spheres += [join(RING, moved_by(RING, 3)), join(OCTAHEDRON, PAIR), OCTAHEDRON]
        for shape in spheres + [EMPTY, PAIR, RING, union(RING, moved_by(RING, 9))]:
            self.assertTrue(is_even_all(shape), shape.facets)
            self.assertEqual(h_numbers(shape), h_numbers(shape)[::-1])
        for shape in (POINT, FULL, skeleton(FULL, 0), TORUS, PROJECTIVE, KLEIN, join(TORUS, PAIR), Complex(((0, 1), (1, 2))),
                      union(OCTAHEDRON, moved_by(OCTAHEDRON, 9))):
            self.assertFalse(is_even_all(shape), shape.facets)

    def test_whole_and_links(self):
        # The whole has the number of a ring, but the link of 0 has three points; and the other way round.
        self.assertEqual(euler_of(Complex(((0, 1), (0, 2), (1, 2), (0, 3)))), euler_of(RING))
        self.assertFalse(is_even_all(Complex(((0, 1), (0, 2), (1, 2), (0, 3)))))
        self.assertTrue(all(is_even_all(link(PROJECTIVE, simplex)) for simplex in simplices_of(PROJECTIVE)))
        self.assertFalse(is_even_all(PROJECTIVE))
        # Not pure.
        self.assertFalse(is_even_all(union(RING, POINT)))
        self.assertFalse(is_even_all(union(OCTAHEDRON, PAIR)))


class Shadows(Judge, unittest.TestCase):
    def test_cascades(self):
        numbers = list(range(0, 300)) + list(range(300, 10001, 173)) + [9999, 10000]
        for size in range(1, 9):
            for number in numbers:
                found = cascade(number, size)
                self.assertIsInstance(found, tuple)
                self.assertEqual([k for _, k in found], list(range(size, size - len(found), -1)))
                left = number
                for a, k in found:
                    self.assertTrue(comb(a, k) <= left < comb(a + 1, k), (number, size))
                    left -= comb(a, k)
                self.assertEqual(left, 0)
                self.assertTrue(all(a >= k for a, k in found))
                self.assertEqual(least_shadow(number, size), sum(comb(a, k - 1) for a, k in found))

    def test_known_ones(self):
        self.assertEqual([cascade(9, 3), least_shadow(9, 3)], [((4, 3), (3, 2), (2, 1)), 10])
        for size in range(1, 9):
            self.assertEqual([cascade(0, size), least_shadow(0, size)], [(), 0])
            self.assertEqual([cascade(1, size), least_shadow(1, size)], [((size, size),), size])
        self.assertEqual([cascade(10000, 1), least_shadow(10000, 1)], [((10000, 1),), 1])
        self.assertEqual(cascade(10000, 2), ((141, 2), (130, 1)))
        self.assertEqual(cascade(10000, 8)[0], (15, 8))

    def test_least_shadow_of_all_families(self):
        for size in (1, 2, 3, 4):
            sets = list(combinations(range(5), size))
            for number in range(len(sets) + 1):
                least = min(len({part for one in chosen for part in combinations(one, size - 1)})
                            for chosen in combinations(sets, number))
                self.assertEqual(least_shadow(number, size), least)

    def test_errors(self):
        for call in (cascade, least_shadow):
            for value in (-1, 10001, True, False, None, "3", (3,), [], {}, RING, 10 ** 40):
                self.assert_raises(BadNumber(), call, value, 3)
            for value in (0, 9, -1, True, None, "3", (3,), [], {}, RING, 10 ** 40):
                self.assert_raises(BadNumber(), call, 3, value)


class Counts(Judge, unittest.TestCase):
    def test_all_complexes_of_four_vertices(self):
        """What their counts are, found by going through all closed sets of the 15 sets of four vertices."""
        sets = sorted(all_parts((0, 1, 2, 3)), key=len)
        inner = [[sets.index(part) for part in all_parts(one)] for one in sets]
        found = set()
        for mask in range(1 << 15):
            if all(mask >> k & 1 for at in range(15) if mask >> at & 1 for k in inner[at]):
                lengths = [len(sets[k]) for k in range(15) if mask >> k & 1]
                found.add(tuple(lengths.count(length) for length in range(1, max(lengths, default=0) + 1)))
        for size in range(5):
            for counts in product(range(1, 5), range(1, 8), range(1, 6), range(1, 3)):
                self.assertIs(are_counts(counts[:size]), counts[:size] in found, counts[:size])

    def judge(self, counts):
        found = compressed(counts)
        self.assertIsInstance(found, Complex)
        self.assertEqual(counts_of(found), counts)

    def test_counts_of_complexes(self):
        for shape in [some_shape(seed, 9) for seed in range(80)] + [
                EMPTY, POINT, FULL, TORUS, PROJECTIVE, KLEIN, DUNCE, skeleton(FULL, 6), skeleton(FULL, 3)]:
            self.assertIs(are_counts(counts_of(shape)), True)
            self.judge(counts_of(shape))

    def test_all_small_ones(self):
        for size in range(5):
            for counts in product(range(1, 8), range(1, 12, 2), range(1, 11), range(1, 5)):
                if are_counts(counts[:size]):
                    self.judge(counts[:size])
                else:
                    self.assertIsNone(compressed(counts[:size]))

    def test_known_ones(self):
        self.assertFalse(are_counts((4, 6, 4, 2)))
        self.assertTrue(are_counts((4, 6, 4, 1)))
        self.assertTrue(are_counts((5, 9, 7, 2)))
        self.assertFalse(are_counts((5, 9, 8, 2)))
        self.assertEqual([are_counts(()), compressed(())], [True, EMPTY])
        self.assertEqual(compressed(counts_of(FULL)), FULL)
        self.assertFalse(are_counts((1,) * 8))

    def test_limits(self):
        self.judge((31,))
        self.assertEqual([are_counts((32,)), compressed((32,))], [True, None])
        self.assertEqual([are_counts((400,)), compressed((400,))], [True, None])
        self.judge((31, 369))
        self.assertEqual(len(vertices_of(compressed((31, 369)))), 31)
        self.assertEqual([are_counts((31, 370)), compressed((31, 370))], [True, None])
        self.assertEqual([are_counts((400, 400, 400)), compressed((400, 400, 400))], [True, None])
        self.judge((20, 100, 280))
        self.assertEqual([are_counts((20, 100, 281)), compressed((20, 100, 281))], [True, None])
        self.judge((8, 28, 56, 70, 56, 28, 8, 1))
        self.assertEqual([are_counts((32, 1)), compressed((32, 1))], [True, None])
        # There are none, whatever the limits are.
        self.assertEqual([are_counts((1, 400)), compressed((1, 400))], [False, None])

    def test_errors(self):
        for call in (are_counts, compressed):
            for value in (None, 3, True, "", [], [4, 6], {}, RING, (1,) * 9, (None,) * 9):
                self.assert_raises(BadCounts(None), call, value)
            for item in (0, -1, 401, True, False, None, "1", (1,), [], {}, RING, 10 ** 30):
                self.assert_raises(BadCounts(0), call, (item,))
                self.assert_raises(BadCounts(2), call, (1, 400, item, None))
                self.assert_raises(BadCounts(7), call, (8,) * 7 + (item,))


if __name__ == "__main__":
    unittest.main()
