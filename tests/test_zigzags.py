"""Point 55."""

import random
import unittest

from judges import (
    EMPTY, FULL, KLEIN, ODD_VALUES, PROJECTIVE, RING, SPHERE, TORUS, Judge, borders, cycles, faces, moore)
from shapeholes.complexes import Complex, simplices_of
from shapeholes.errors import BadDegree, BadRow
from shapeholes.filtrations import Filtration
from shapeholes.holes import holes_mod
from shapeholes.parts import components, meet, skeleton, union
from shapeholes.persistence import bars
from shapeholes.zigzags import zigzag_bars

POINT = Complex(((0,),))
TWO = Complex(((0,), (1,)))
EDGE = Complex(((0, 1),))
DISK = Complex(((0, 1, 2),))


def some_shape(source):
    return Complex(tuple(tuple(sorted(source.sample(range(5), source.randint(1, 3)))) for _ in range(source.randint(0, 7))))


def some_row(seed):
    """Complexes and their meets or unions in turn."""
    source = random.Random(seed)
    row = [some_shape(source)]
    while len(row) < source.randint(1, 8):
        step = source.choice((meet, union))
        row.append(step(row[-1], some_shape(source)))
    return tuple(row)


ROWS = [some_row(seed) for seed in range(150)] + [
    (EMPTY,), (EMPTY,) * 8, (RING,) * 8, (TWO, EDGE, TWO), (POINT, TWO, EDGE, POINT), (RING, DISK, RING, EMPTY, RING),
    (EMPTY, TORUS, skeleton(TORUS, 1), TORUS), (PROJECTIVE, EMPTY, PROJECTIVE), (SPHERE, Complex(SPHERE.facets[1:]), SPHERE)]


class Classes:
    """The holes of a complex by 2, each one as a frozen set of simplices: a cycle changed by boundaries."""

    def __init__(self, shape, degree):
        self.simplices = faces(shape)
        self.rows = {}
        for border in borders(self.simplices, degree + 1):
            rest = self.reduced(frozenset(border))
            if rest:
                self.rows[max(rest)] = rest
        if degree == 0:
            basis = [frozenset([simplex]) for simplex in self.simplices if len(simplex) == 1]
        else:
            basis = [frozenset(cycle) for cycle in cycles(self.simplices | {()}, degree, 2)]
        self.all = {frozenset()}
        for cycle in basis:
            self.all |= {self.reduced(one ^ cycle) for one in self.all}

    def reduced(self, chain):
        done = []
        while chain:
            last = max(chain)
            if last in self.rows:
                chain = chain ^ self.rows[last]
            else:
                done.append(last)
                chain = chain - {last}
        return frozenset(done)


def rank_between(classes, row, first, last):
    """The rank of the relation between two complexes, pair by pair."""
    pairs = {(hole, hole) for hole in classes[first].all}
    for k in range(first + 1, last + 1):
        if faces(row[k - 1]) <= faces(row[k]):
            pairs = {(one, classes[k].reduced(other)) for one, other in pairs}
        else:
            pairs = {(one, other) for one, between in pairs for other in classes[k].all
                     if classes[k - 1].reduced(other) == between}
    sizes = [len(pairs), len({one for one, other in pairs if not other}), len({other for one, other in pairs if not one})]
    assert all(size & (size - 1) == 0 for size in sizes)
    return sizes[0].bit_length() - sizes[1].bit_length() - sizes[2].bit_length() + 1


class Zigzags(Judge, unittest.TestCase):
    def test_by_relations(self):
        """So many bars hold two complexes as the rank of their relation tells."""
        tried = 0
        for row in ROWS:
            for degree in (0, 1, 2):
                if max(holes_mod(shape, degree, 2) for shape in row) > 4:
                    continue
                classes = [Classes(shape, degree) for shape in row]
                answer = zigzag_bars(row, degree)
                for last in range(len(row)):
                    for first in range(last + 1):
                        holding = [bar for bar in answer if bar[0] <= first and last <= bar[1]]
                        self.assertEqual(len(holding), rank_between(classes, row, first, last))
                tried += 1
        self.assertGreater(tried, 300)

    def test_form(self):
        for row in ROWS:
            for degree in (0, 1, 2, 7):
                answer = zigzag_bars(row, degree)
                self.assertEqual(answer, tuple(sorted(answer)))
                self.assertTrue(all(0 <= first <= last < len(row) for first, last in answer))

    def test_number_of_holes(self):
        for row in ROWS:
            for degree in range(8):
                for k, shape in enumerate(row):
                    holding = [bar for bar in zigzag_bars(row, degree) if bar[0] <= k <= bar[1]]
                    wanted = len(components(shape)) if degree == 0 else holes_mod(shape, degree, 2)
                    self.assertEqual(len(holding), wanted)

    def test_growing_rows(self):
        """For complexes that only grow they are the bars of a filtration."""
        for seed in range(60):
            source = random.Random(seed)
            row = [some_shape(source)]
            while len(row) < 8:
                row.append(union(row[-1], some_shape(source)))
            times = tuple(min(k for k in range(8) if simplex in row[k]) for simplex in simplices_of(row[-1]))
            for degree in range(4):
                wanted = [(begin, 7 if end is None else end - 1) for begin, end in bars(Filtration(row[-1], times), degree)]
                self.assertEqual(zigzag_bars(tuple(row), degree), tuple(sorted(wanted)))
                backwards = sorted((7 - last, 7 - first) for first, last in wanted)
                self.assertEqual(zigzag_bars(tuple(row[::-1]), degree), tuple(backwards))

    def test_other_way_round(self):
        for row in ROWS:
            for degree in (0, 1):
                wanted = sorted((len(row) - 1 - last, len(row) - 1 - first) for first, last in zigzag_bars(row, degree))
                self.assertEqual(zigzag_bars(row[::-1], degree), tuple(wanted))

    def test_known_ones(self):
        self.assertEqual(zigzag_bars((TWO, EDGE, TWO), 0), ((0, 0), (0, 2), (2, 2)))
        self.assertEqual(zigzag_bars((EDGE, TWO, EDGE), 0), ((0, 2), (1, 1)))
        self.assertEqual(zigzag_bars((EMPTY,), 0), ())
        self.assertEqual([zigzag_bars((EMPTY, POINT, EMPTY), 0), zigzag_bars((POINT, EMPTY, POINT), 0)], [((1, 1),), ((0, 0), (2, 2))])
        self.assertEqual([zigzag_bars((RING,), 1), zigzag_bars((RING,) * 8, 1)], [((0, 0),), ((0, 7),)])
        self.assertEqual(zigzag_bars((RING, DISK, RING), 1), ((0, 0), (2, 2)))
        self.assertEqual(zigzag_bars((RING, Complex(RING.facets[1:]), RING), 1), ((0, 0), (2, 2)))
        self.assertEqual(zigzag_bars((TORUS,), 1), ((0, 0), (0, 0)))
        # By 2 the projective plane and the Klein bottle have holes that they do not have otherwise.
        self.assertEqual([zigzag_bars((PROJECTIVE,), degree) for degree in (0, 1, 2, 3)], [((0, 0),), ((0, 0),), ((0, 0),), ()])
        self.assertEqual([len(zigzag_bars((KLEIN,), degree)) for degree in (0, 1, 2)], [1, 2, 1])
        self.assertEqual([zigzag_bars((moore(3),), 1), zigzag_bars((moore(2),), 1)], [(), ((0, 0),)])

    def test_degrees_0_and_7(self):
        ball = skeleton(FULL, 6)
        self.assertEqual(zigzag_bars((ball, FULL, ball), 6), ((0, 0), (2, 2)))
        self.assertEqual([zigzag_bars((ball, FULL), 7), zigzag_bars((ball, FULL), 0)], [(), ((0, 1),)])

    def test_large_rows(self):
        """The complexes of a row may have more than 400 simplices together."""
        whole = skeleton(FULL, 5)
        parts = [Complex(tuple(tuple(vertex + k for vertex in facet) for facet in whole.facets)) for k in (0, 8, 16)]
        row = (parts[0], EMPTY, parts[1], EMPTY, parts[2])
        self.assertEqual(zigzag_bars(row, 5), ((0, 0),) * 7 + ((2, 2),) * 7 + ((4, 4),) * 7)

    def test_bad_rows(self):
        for value in (None, 3, True, "", [], [RING], {}, {0: RING}, RING, (), (RING,) * 9, (None,) * 9):
            self.assert_raises(BadRow(None), zigzag_bars, value, None)
        for value in ODD_VALUES + ((),):
            if not isinstance(value, Complex):
                self.assert_raises(BadRow(0), zigzag_bars, (value,), None)
                self.assert_raises(BadRow(2), zigzag_bars, (RING, DISK, value, None), None)
                self.assert_raises(BadRow(7), zigzag_bars, (RING,) * 7 + (value,), None)
        self.assert_raises(BadRow(1), zigzag_bars, (POINT, Complex(((1,),))), None)
        self.assert_raises(BadRow(2), zigzag_bars, (RING, POINT, Complex(((1, 2),)), None), None)
        # A part of an earlier one is not enough.
        self.assert_raises(BadRow(2), zigzag_bars, (TWO, POINT, Complex(((1,),))), 0)

    def test_bad_degrees(self):
        for value in (-1, 8, True, False, None, "0", (0,), [], {}, RING, 10 ** 30):
            self.assert_raises(BadDegree(), zigzag_bars, (RING,), value)
            self.assert_raises(BadDegree(), zigzag_bars, (EMPTY,) * 8, value)

    def test_arguments_stay(self):
        row = (TWO, EDGE, TWO)
        zigzag_bars(row, 0)
        self.assertEqual([shape.facets for shape in row], [((0,), (1,)), ((0, 1),), ((0,), (1,))])


if __name__ == "__main__":
    unittest.main()
