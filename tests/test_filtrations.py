"""Points 12 and 13; the tests of point 14 ask for BadOrder."""

import random
import unittest

from judges import EMPTY, FULL, ODD_VALUES, RING, TORUS, Judge, faces
from shapeholes.complexes import Complex, simplices_of
from shapeholes.errors import BadTime, BadTimes, NotComplex, NotFiltration
from shapeholes.filtrations import Filtration, order_of, stage

TRIANGLE = Complex(((0, 1, 2),))
GROWN = Filtration(TRIANGLE, (0, 1, 2, 3, 4, 5, 9))
NOTHING = Filtration(EMPTY, ())
BAD_TIMES = (None, True, False, -1, 1001, 10 ** 30, "3", (3,), [], {}, TRIANGLE, GROWN)


def some_filtration(seed):
    """Times that grow with the simplices, many of them equal."""
    source = random.Random(seed)
    shape = Complex(tuple(tuple(sorted(source.sample(range(7), source.randint(1, 4)))) for _ in range(6)))
    last, come = source.choice([0, 3, 12, 900]), {}
    for simplex in simplices_of(shape):
        least = max((come[face] for face in come if set(face) < set(simplex)), default=0)
        come[simplex] = least + source.choice([0, 0, source.randint(0, last) // 9 + source.randint(0, 1)])
    return Filtration(shape, tuple(come.values()))


def some_order(filtration, seed):
    """An order that is not the one of order_of where there is another one."""
    source = random.Random(seed)
    come = dict(zip(simplices_of(filtration.shape), filtration.times))
    order = []
    while len(order) < len(come):
        ready = [simplex for simplex in come if simplex not in order
                 and all(face in order for face in come if set(face) < set(simplex))]
        least = min(come[simplex] for simplex in come if simplex not in order)
        order.append(source.choice([simplex for simplex in ready if come[simplex] == least]))
    return tuple(order)


FILTRATIONS = [some_filtration(seed) for seed in range(40)] + [
    GROWN, NOTHING, Filtration(FULL, (7,) * 255), Filtration(Complex(((30,),)), (1000,))]


class Making(Judge, unittest.TestCase):
    def test_times(self):
        self.assertEqual(GROWN.times, (0, 1, 2, 3, 4, 5, 9))
        self.assertEqual(NOTHING.times, ())
        self.assertEqual(Filtration(RING, (0, 0, 1000, 0, 1000, 1000)).times, (0, 0, 1000, 0, 1000, 1000))
        self.assertEqual(Filtration(FULL, (1000,) * 255).times, (1000,) * 255)

    def test_equality(self):
        self.assertTrue(GROWN == Filtration(Complex(((0, 1, 2), (0, 1))), (0, 1, 2, 3, 4, 5, 9)))
        self.assertFalse(GROWN != Filtration(TRIANGLE, (0, 1, 2, 3, 4, 5, 9)))
        self.assertTrue(NOTHING == Filtration(Complex(()), ()))
        self.assertTrue(GROWN != Filtration(TRIANGLE, (0, 1, 2, 3, 4, 5, 8)))
        self.assertTrue(Filtration(Complex(((0, 1),)), (1, 1, 1)) != Filtration(Complex(((0, 2),)), (1, 1, 1)))
        for value in (TRIANGLE, GROWN.times, None, 0, "", []):
            self.assertFalse(GROWN == value)
            self.assertFalse(NOTHING == value)

    def test_bad_times(self):
        for value in (None, 3, True, [], list(GROWN.times), "0123459", {}, (), GROWN.times[:6], GROWN.times + (9,),
                      GROWN, ("x",) * 8):
            self.assert_raises(BadTimes(None), Filtration, TRIANGLE, value)
        for item in BAD_TIMES:
            for k in range(7):
                times = list(GROWN.times)
                times[k] = item
                self.assert_raises(BadTimes(k), Filtration, TRIANGLE, tuple(times))
        self.assert_raises(BadTimes(None), Filtration, EMPTY, (0,))

    def test_faces_are_not_later(self):
        self.assert_raises(BadTimes(3), Filtration, TRIANGLE, (1, 2, 3, 1, 3, 3, 3))
        self.assert_raises(BadTimes(5), Filtration, TRIANGLE, (1, 2, 3, 2, 3, 2, 1))
        self.assert_raises(BadTimes(6), Filtration, TRIANGLE, (1, 2, 3, 2, 3, 4, 3))
        self.assert_raises(BadTimes(254), Filtration, FULL, (5,) * 254 + (4,))
        # The first one counts, be it no time or below a face.
        self.assert_raises(BadTimes(3), Filtration, TRIANGLE, (1, 2, 3, 1, None, 3, 3))
        self.assert_raises(BadTimes(2), Filtration, TRIANGLE, (1, 2, None, 1, 3, 3, 3))

    def test_no_complex(self):
        for value in ODD_VALUES + (GROWN,):
            self.assert_raises(NotComplex(), Filtration, value, None)


class Stages(Judge, unittest.TestCase):
    def test_stages(self):
        for filtration in FILTRATIONS:
            come = dict(zip(simplices_of(filtration.shape), filtration.times))
            for time in sorted({0, 1, 2, 5, 7, 999, 1000} | set(filtration.times)):
                wanted = {simplex for simplex in come if come[simplex] <= time}
                self.assertEqual(faces(stage(filtration, time)), wanted)

    def test_known_ones(self):
        self.assertEqual(stage(GROWN, 0).facets, ((0,),))
        self.assertEqual(stage(GROWN, 4).facets, ((0, 1), (0, 2)))
        self.assertEqual(stage(GROWN, 8), RING)
        self.assertEqual(stage(GROWN, 9), TRIANGLE)
        self.assertEqual(stage(NOTHING, 1000), EMPTY)
        self.assertEqual(stage(Filtration(TORUS, (1000,) * 42), 999), EMPTY)
        self.assertEqual(stage(Filtration(TORUS, (1000,) * 42), 1000), TORUS)
        self.assertEqual(stage(Filtration(TORUS, (0,) * 42), 0), TORUS)

    def test_errors(self):
        for value in BAD_TIMES:
            self.assert_raises(BadTime(), stage, GROWN, value)
            self.assert_raises(BadTime(), stage, NOTHING, value)
        for value in ODD_VALUES + (TRIANGLE, GROWN.times):
            self.assert_raises(NotFiltration(), stage, value, None)


class Orders(Judge, unittest.TestCase):
    def test_order_of(self):
        for filtration in FILTRATIONS:
            come = dict(zip(simplices_of(filtration.shape), filtration.times))
            order = order_of(filtration)
            self.assertIsInstance(order, tuple)
            keys = [(come[simplex], len(simplex), simplex) for simplex in order]
            self.assertEqual(keys, sorted(keys))
            self.assertEqual(set(order), set(come))
            self.assertEqual(len(order), len(come))

    def test_known_ones(self):
        self.assertEqual(order_of(NOTHING), ())
        self.assertEqual(order_of(Filtration(RING, (2, 0, 1, 2, 2, 1))), ((1,), (2,), (1, 2), (0,), (0, 1), (0, 2)))
        self.assertEqual(order_of(Filtration(RING, (3,) * 6)), tuple(simplices_of(RING)))

    def test_no_filtration(self):
        for value in ODD_VALUES + (TRIANGLE, GROWN.times, (TRIANGLE, GROWN.times)):
            self.assert_raises(NotFiltration(), order_of, value)


if __name__ == "__main__":
    unittest.main()
