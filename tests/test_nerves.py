"""Points 22, 35 and 36."""

import random
import unittest

from judges import (
    BAD_PRIMES, EMPTY, FULL, ODD_VALUES, PRIMES, PROJECTIVE, RING, TORUS, Judge, all_parts, faces, holes_by, moore,
    moved_by)
from shapeholes.collapses import dominated
from shapeholes.complexes import Complex
from shapeholes.errors import BadCover, BadPrime, BadTable, NotComplex, TooMany
from shapeholes.holes import holes, holes_mod
from shapeholes.matches import isomorphism
from shapeholes.nerves import column_shape, cover_nerve, is_clean_cover, nerve, row_shape
from shapeholes.parts import star, union

POINT = Complex(((30,),))


def some_shape(seed, facets, length=4):
    source = random.Random(seed)
    return Complex(tuple(tuple(sorted(source.sample(range(9), source.randint(1, length)))) for _ in range(facets)))


def some_table(seed):
    source = random.Random(seed)
    rows, columns = source.randint(1, 8), source.randint(1, 8)
    return tuple(tuple(source.choice((0, 0, 1)) for _ in range(columns)) for _ in range(rows))


def all_together(parts):
    shape = EMPTY
    for part in parts:
        shape = union(shape, part)
    return shape


class Nerves(Judge, unittest.TestCase):
    def test_by_definition(self):
        for seed in range(60):
            shape = some_shape(seed, 1 + seed % 8)
            wanted = {part for part in all_parts(tuple(range(len(shape.facets))))
                      if set.intersection(*(set(shape.facets[k]) for k in part))}
            self.assertEqual(faces(nerve(shape)), wanted)

    def test_known_ones(self):
        self.assertEqual(nerve(EMPTY), EMPTY)
        self.assertEqual(nerve(POINT).facets, ((0,),))
        self.assertEqual(nerve(FULL).facets, ((0,),))
        self.assertEqual(nerve(RING), RING)
        self.assertEqual(nerve(Complex(((0, 1, 2), (2, 3), (5,), (3, 4), (3, 6)))).facets, ((0, 1), (1, 2, 3), (4,)))
        self.assertEqual(nerve(Complex(((0, 9), (1, 9), (2, 9)))).facets, ((0, 1, 2),))

    def test_eight_and_nine_facets(self):
        star_of = [Complex(tuple((k, 30) for k in range(many))) for many in (8, 9)]
        self.assertEqual(nerve(star_of[0]), FULL)
        self.assert_raises(TooMany(8), nerve, star_of[1])
        self.assertEqual(nerve(Complex(tuple((k,) for k in range(8)))).facets, tuple((k,) for k in range(8)))
        self.assert_raises(TooMany(8), nerve, Complex(tuple((k,) for k in range(9))))
        self.assert_raises(TooMany(8), nerve, TORUS)

    def test_nerve_of_the_nerve(self):
        """A complex has no dominated vertex just if the nerve of its nerve is itself up to names."""
        found = []
        for seed in range(300):
            shape = some_shape(seed, 1 + seed % 8, 3)
            if len(nerve(shape).facets) <= 8:
                same = isomorphism(nerve(nerve(shape)), shape) is not None
                self.assertEqual(same, not dominated(shape))
                found.append(same)
        for shape in (EMPTY, POINT, RING, Complex(((0, 1), (1, 2), (2, 3), (0, 3)))):
            self.assertIsNotNone(isomorphism(nerve(nerve(shape)), shape))
        self.assertGreater(found.count(True), 10)
        self.assertGreater(found.count(False), 10)

    def test_no_complex(self):
        for value in ODD_VALUES:
            self.assert_raises(NotComplex(), nerve, value)


class Tables(Judge, unittest.TestCase):
    def test_by_definition(self):
        for seed in range(60):
            table = some_table(seed)
            many, width = len(table), len(table[0])
            self.assertEqual(faces(row_shape(table)), {
                rows for rows in all_parts(tuple(range(many))) if any(all(table[k][at] for k in rows) for at in range(width))})
            self.assertEqual(faces(column_shape(table)), {
                columns for columns in all_parts(tuple(range(width))) if any(all(row[at] for at in columns) for row in table)})

    def test_same_holes(self):
        tables = [some_table(seed) for seed in range(60)] + [
            (), ((),) * 8, ((0, 0),), ((1,),), ((1, 1, 0), (0, 1, 1), (1, 0, 1))]
        for table in tables:
            for degree in range(-1, 8):
                self.assertEqual(holes(row_shape(table), degree), holes(column_shape(table), degree))

    def test_known_ones(self):
        table = ((1, 1, 0, 0), (0, 1, 0, 0), (1, 0, 0, 0))
        self.assertEqual(row_shape(table).facets, ((0, 1), (0, 2)))
        self.assertEqual(column_shape(table).facets, ((0, 1),))
        self.assertEqual([row_shape(((1,) * 8,) * 8), column_shape(((1,) * 8,) * 8)], [FULL, FULL])
        self.assertEqual([row_shape(((1,) * 8,)).facets, column_shape(((1,) * 8,))], [((0,),), FULL])

    def test_without_rows_or_columns(self):
        for table in ((), ((),), ((),) * 8, ((0,),), ((0,) * 8,) * 8):
            self.assertEqual([row_shape(table), column_shape(table)], [EMPTY, EMPTY])

    def test_errors(self):
        for call in (row_shape, column_shape):
            for value in (None, 3, True, "", "01", [], [(0, 1)], {}, RING, ((0,),) * 9, ((),) * 9, ((0,) * 9,), ([0, 1],),
                          ((0, 1), (0,)), ((), (0,)), ((0,), ()), ((0, 2),), ((0, -1),), ((0, True),), ((False, 1),), (0, 1),
                          ((0, "1"),), ((0, None),), (((0,),),), ((0, 1), "01"), ((0, 1), None), (RING,), ((RING,),),
                          ((0, 1), (1, 10 ** 30))):
                self.assert_raises(BadTable(), call, value)


class Covers(Judge, unittest.TestCase):
    def covers(self):
        """Sets of some complexes; some of them are put together from stars of one complex."""
        found = [(), (EMPTY,), (EMPTY, EMPTY), (POINT,), (EMPTY, POINT), (RING,), (FULL,) * 8,
                 tuple(star(TORUS, (k,)) for k in range(7)), tuple(star(moore(2), (k,)) for k in range(3, 9)),
                 tuple(Complex((edge,)) for edge in RING.facets),
                 tuple(Complex((triangle,)) for triangle in TORUS.facets[:8])]
        for seed in range(60):
            source = random.Random(seed)
            whole = some_shape(seed, 8)
            found.append(tuple(Complex(tuple(source.sample(whole.facets, source.randint(0, min(3, len(whole.facets))))))
                               for _ in range(seed % 9)))
            found.append(tuple(Complex((facet,)) for facet in whole.facets))
        return found

    def common(self, parts, indexes):
        return set.intersection(*(faces(parts[k]) for k in indexes))

    def test_nerve_by_definition(self):
        for parts in self.covers():
            wanted = {indexes for indexes in all_parts(tuple(range(len(parts)))) if self.common(parts, indexes)}
            self.assertEqual(faces(cover_nerve(parts)), wanted)

    def test_clean_by_definition(self):
        answers = []
        for parts in self.covers():
            if parts == (FULL,) * 8:
                continue
            sets = [self.common(parts, indexes) for indexes in all_parts(tuple(range(len(parts))))]
            for prime in (2, 5):
                wanted = not any(holes_by(meet | {()}, degree, prime) for meet in sets if meet for degree in range(5))
                self.assertEqual(is_clean_cover(parts, prime), wanted)
                answers.append(wanted)
        self.assertGreater(answers.count(True), 30)
        self.assertGreater(answers.count(False), 30)

    def test_as_many_holes(self):
        for parts in self.covers():
            for prime in PRIMES:
                if is_clean_cover(parts, prime):
                    for degree in range(-1, 8):
                        self.assertEqual(holes_mod(all_together(parts), degree, prime),
                                         holes_mod(cover_nerve(parts), degree, prime))

    def test_known_ones(self):
        self.assertEqual([cover_nerve(()), is_clean_cover((), 2)], [EMPTY, True])
        self.assertEqual([cover_nerve((EMPTY,)), is_clean_cover((EMPTY, EMPTY), 2)], [EMPTY, True])
        self.assertEqual(cover_nerve((EMPTY, POINT, EMPTY, POINT)).facets, ((1, 3),))
        self.assertEqual([cover_nerve((FULL,) * 8), is_clean_cover((FULL,) * 8, 7)], [FULL, True])
        self.assertEqual([cover_nerve((RING,)).facets, is_clean_cover((RING,), 3)], [((0,),), False])
        # Each is clean, but not the meet of both.
        arcs = (Complex(((0, 1), (1, 2))), Complex(((0, 3), (2, 3))))
        self.assertEqual([cover_nerve(arcs).facets, is_clean_cover(arcs, 2)], [((0, 1),), False])
        # The vertices 0 to 30 may be common ones.
        self.assertEqual(cover_nerve((POINT, moved_by(RING, 28), RING)).facets, ((0, 1), (2,)))

    def test_holes_by_the_prime(self):
        for shape, orders in ((PROJECTIVE, (2,)), (moore(3), (3,)), (moore(5), (5,))):
            self.assertEqual([prime for prime in PRIMES if not is_clean_cover((shape, POINT), prime)], list(orders))

    def test_errors(self):
        for call in (cover_nerve, lambda parts: is_clean_cover(parts, 4)):
            for value in (None, 3, True, "", [], [RING], {}, RING, (RING,) * 9, (None,) * 9):
                self.assert_raises(BadCover(None), call, value)
            for value in ODD_VALUES + ((),):
                self.assert_raises(BadCover(0), call, (value,))
                self.assert_raises(BadCover(7), call, (RING,) * 7 + (value,))
                self.assert_raises(BadCover(1), call, (EMPTY, value, None))
        for value in BAD_PRIMES:
            self.assert_raises(BadPrime(), is_clean_cover, (), value)
            self.assert_raises(BadPrime(), is_clean_cover, (RING,), value)

    def test_arguments_stay(self):
        parts = (RING, TORUS, POINT)
        before = [part.facets for part in parts]
        cover_nerve(parts), is_clean_cover(parts, 2), nerve(RING)
        self.assertEqual([part.facets for part in parts], before)


if __name__ == "__main__":
    unittest.main()
