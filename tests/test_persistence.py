"""Points 14 to 17, and the errors of an order of point 13."""

import random
import unittest
from itertools import combinations

from judges import (
    EMPTY, FULL, KLEIN, ODD_VALUES, PROJECTIVE, RING, TORUS, Judge, border, borders, cycles, faces, rank_by, span_rank)
from shapeholes.complexes import Complex, simplices_of
from shapeholes.errors import BadDegree, BadOrder, BadTime, NotFiltration
from shapeholes.filtrations import Filtration, order_of, stage
from shapeholes.parts import skeleton
from shapeholes.persistence import bars, least_forest, pairs, pairs_by_rows, rank_between
from test_filtrations import BAD_TIMES, FILTRATIONS, GROWN, NOTHING, TRIANGLE, some_order

AT_ONCE = [Filtration(shape, (time,) * len(simplices_of(shape)))
           for shape, time in ((TORUS, 0), (PROJECTIVE, 1000), (KLEIN, 7), (skeleton(FULL, 6), 5), (FULL, 0))]


def pairs_by_ranks(order):
    """The pairs that the ranks of the corners of the matrix of boundaries tell."""
    columns = [{order.index(face): 1 for face, _ in border(simplex) if face} for simplex in order]

    def rank(row, many):
        return span_rank([{at: 1 for at in column if at >= row} for column in columns[:many]], 2)
    found = {}
    for at, simplex in enumerate(order):
        grown = [row for row in range(len(order)) if rank(row, at + 1) > rank(row, at)]
        if grown:
            found[order[max(grown)]] = simplex
    return tuple((simplex, found.get(simplex)) for simplex in order if simplex not in found.values())


class Pairs(Judge, unittest.TestCase):
    def test_known_ones(self):
        order = order_of(GROWN)
        self.assertEqual(pairs(GROWN, order), (
            ((0,), None), ((1,), (0, 1)), ((2,), (0, 2)), ((1, 2), (0, 1, 2))))
        self.assertEqual(pairs(NOTHING, ()), ())
        self.assertEqual(pairs_by_rows(NOTHING, ()), ())
        alone = Filtration(Complex(((30,),)), (1000,))
        self.assertEqual(pairs(alone, ((30,),)), (((30,), None),))
        # The younger of two components ends where they meet.
        path = Filtration(Complex(((0, 1), (1, 2))), (5, 0, 3, 6, 7))
        self.assertEqual(pairs(path, order_of(path)), (((1,), None), ((2,), (1, 2)), ((0,), (0, 1))))

    def test_judged_by_ranks(self):
        for seed, filtration in enumerate(FILTRATIONS):
            if len(filtration.times) <= 30:
                for order in (order_of(filtration), some_order(filtration, seed)):
                    wanted = pairs_by_ranks(order)
                    self.assertEqual(pairs(filtration, order), wanted)
                    self.assertEqual(pairs_by_rows(filtration, order), wanted)

    def test_both_are_the_same(self):
        for seed, filtration in enumerate(FILTRATIONS + AT_ONCE):
            order = order_of(filtration) if len(filtration.times) > 99 else some_order(filtration, seed)
            found = pairs(filtration, order)
            self.assertEqual(found, pairs_by_rows(filtration, order))
            firsts = [maker for maker, _ in found]
            self.assertEqual(firsts, sorted(firsts, key=order.index))
            fillers = [filler for _, filler in found if filler]
            self.assertEqual(sorted(firsts + fillers), sorted(order))
            for maker, filler in found:
                self.assertTrue(filler is None or len(filler) == len(maker) + 1)
                self.assertTrue(filler is None or order.index(maker) < order.index(filler))

    def test_bad_order(self):
        good = order_of(GROWN)
        for call in (pairs, pairs_by_rows):
            for value in (None, 3, True, [], list(good), {}, "", (), good[:6], good + ((0,),), GROWN, TRIANGLE, (None,) * 8):
                self.assert_raises(BadOrder(None), call, GROWN, value)
            for item in ODD_VALUES + ((), (3,), (0, 3), (False,), (0, True), [0], (0, 1, 2, 3), GROWN):
                if item != (0,):
                    for k in range(7):
                        self.assert_raises(BadOrder(k), call, GROWN, good[:k] + (item,) + good[k + 1:])
            # An item that comes again, before others that are wrong.
            self.assert_raises(BadOrder(3), call, GROWN, good[:3] + (good[2],) + good[4:6] + (None,))
            self.assert_raises(BadOrder(6), call, GROWN, good[:6] + (good[0],))
            self.assert_raises(BadOrder(None), call, NOTHING, (None,))

    def test_order_of_faces_and_times(self):
        for call in (pairs, pairs_by_rows):
            flat = Filtration(TRIANGLE, (4,) * 7)
            # The edge is ahead of its vertex 1; then the triangle ahead of its edge.
            self.assert_raises(BadOrder(1), call, flat, ((0,), (0, 1), (1,), (2,), (0, 2), (1, 2), (0, 1, 2)))
            self.assert_raises(BadOrder(5), call, flat, ((0,), (1,), (0, 1), (2,), (0, 2), (0, 1, 2), (1, 2)))
            self.assert_raises(BadOrder(0), call, flat, ((0, 1, 2), (1, 2), (0, 2), (0, 1), (2,), (1,), (0,)))
            self.assertEqual(len(call(flat, ((2,), (1,), (1, 2), (0,), (0, 2), (0, 1), (0, 1, 2)))), 4)
            # A face that never comes counts as one that has yet to come.
            self.assert_raises(BadOrder(3), call, flat, ((0,), (1,), (0, 1), (1, 2), (0, 2), (0, 2), (0, 1, 2)))
            # Behind a later one.
            self.assert_raises(BadOrder(1), call, GROWN, ((1,), (0,), (2,), (0, 1), (0, 2), (1, 2), (0, 1, 2)))
            self.assert_raises(BadOrder(4), call, GROWN, ((0,), (1,), (2,), (0, 2), (0, 1), (1, 2), (0, 1, 2)))

    def test_arguments_stay(self):
        before = GROWN.times, order_of(GROWN), simplices_of(GROWN.shape)
        pairs(GROWN, order_of(GROWN)), pairs_by_rows(GROWN, order_of(GROWN)), bars(GROWN, 0), least_forest(GROWN)
        self.assert_raises(BadOrder(None), pairs, GROWN, [])
        self.assert_raises(BadTime(), stage, GROWN, -1)
        self.assertEqual((GROWN.times, order_of(GROWN), simplices_of(GROWN.shape)), before)

    def test_no_filtration(self):
        for call in (pairs, pairs_by_rows):
            for value in ODD_VALUES + (TRIANGLE, GROWN.times):
                self.assert_raises(NotFiltration(), call, value, None)


class Bars(Judge, unittest.TestCase):
    def test_example(self):
        self.assertEqual(
            [bars(GROWN, 0), bars(GROWN, 1), least_forest(GROWN), rank_between(GROWN, 1, 5, 8)],
            [((0, None), (1, 3), (2, 4)), ((5, 9),), ((0, 1), (0, 2)), 1])

    def test_do_not_depend_on_the_order(self):
        for seed, filtration in enumerate(FILTRATIONS):
            if len(filtration.times) > 99:
                continue
            come = dict(zip(simplices_of(filtration.shape), filtration.times))
            for turn in range(3):
                found = pairs(filtration, some_order(filtration, 99 * seed + turn))
                for degree in range(8):
                    spans = [(come[maker], come.get(filler)) for maker, filler in found if len(maker) == degree + 1]
                    wanted = sorted((span for span in spans if span[0] != span[1]),
                                    key=lambda span: (span[0], 9999 if span[1] is None else span[1]))
                    self.assertEqual(bars(filtration, degree), tuple(wanted))

    def test_all_at_once(self):
        wanted = {0: {0: 1, 1: 2, 2: 1}, 1: {0: 1, 1: 1, 2: 1}, 2: {0: 1, 1: 2, 2: 1}, 3: {0: 1, 6: 1}, 4: {0: 1}}
        for k, filtration in enumerate(AT_ONCE):
            for degree in range(8):
                self.assertEqual(bars(filtration, degree), ((filtration.times[0], None),) * wanted[k].get(degree, 0))

    def test_none_comes_last_and_bars_come_again(self):
        shape = Complex(((0, 1), (2,), (3,), (4, 5), (6, 7)))
        grown = Filtration(shape, (0, 1, 1, 0, 0, 1, 0, 1, 2, 3, 3))
        self.assertEqual(bars(grown, 0), ((0, None),) * 4 + ((1, 2), (1, 3), (1, 3), (1, None)))
        two = Filtration(Complex(((0, 1), (2,))), (4, 4, 4, 6))
        self.assertEqual(bars(two, 0), ((4, 6), (4, None), (4, None)))

    def test_edges(self):
        for degree in range(8):
            self.assertEqual(bars(NOTHING, degree), ())
        ball = Filtration(FULL, (0,) * 254 + (1000,))
        self.assertEqual([bars(ball, degree) for degree in range(8)],
                         [((0, None),), (), (), (), (), (), ((0, 1000),), ()])

    def test_errors(self):
        for value in ODD_VALUES + (TRIANGLE,):
            self.assert_raises(NotFiltration(), bars, value, 8)
        for value in (-1, 8, True, False, None, "0", (0,), [], GROWN, 10 ** 20):
            self.assert_raises(BadDegree(), bars, GROWN, value)
            self.assert_raises(BadDegree(), bars, NOTHING, value)


class Ranks(Judge, unittest.TestCase):
    def rank_of_map(self, filtration, degree, begin, end):
        """Of the cycles at begin with the boundaries at end counted as nothing."""
        first, last = faces(stage(filtration, begin)), faces(stage(filtration, end))
        # Without the empty simplex the holes are not reduced.
        return rank_by(cycles(first, degree, 2, {()}), borders(last, degree + 1), 2)

    def test_judged_by_cycles(self):
        for filtration in FILTRATIONS[:25] + [GROWN, NOTHING]:
            times = sorted({0, 1000} | set(filtration.times))
            for begin in times:
                for end in [time for time in times if time >= begin]:
                    for degree in range(4):
                        self.assertEqual(rank_between(filtration, degree, begin, end),
                                         self.rank_of_map(filtration, degree, begin, end))

    def test_is_the_number_of_bars(self):
        for filtration in FILTRATIONS:
            for degree in range(8):
                for begin, end in ((0, 0), (0, 1000), (1, 2), (2, 2), (3, 9), (1000, 1000)):
                    kept = [bar for bar in bars(filtration, degree)
                            if bar[0] <= begin and (bar[1] is None or bar[1] > end)]
                    self.assertEqual(rank_between(filtration, degree, begin, end), len(kept))

    def test_known_ones(self):
        self.assertEqual([rank_between(GROWN, 0, *times) for times in ((0, 0), (2, 2), (2, 3), (2, 4), (2, 1000))],
                         [1, 3, 2, 1, 1])
        self.assertEqual([rank_between(GROWN, 1, *times) for times in ((4, 5), (5, 5), (5, 8), (8, 9), (9, 9))],
                         [0, 1, 1, 0, 0])
        points = Filtration(Complex(tuple((k,) for k in range(31))), (1000,) * 31)
        self.assertEqual(rank_between(points, 0, 1000, 1000), 31)
        self.assertEqual(rank_between(points, 0, 999, 1000), 0)
        self.assertEqual(rank_between(AT_ONCE[3], 6, 5, 1000), 1)
        self.assertEqual(rank_between(AT_ONCE[3], 7, 5, 1000), 0)
        self.assertEqual(rank_between(NOTHING, 0, 0, 0), 0)

    def test_errors(self):
        for value in ODD_VALUES + (TRIANGLE,):
            self.assert_raises(NotFiltration(), rank_between, value, 8, -1, -1)
        for value in (-1, 8, True, False, None, "0", (0,), GROWN):
            self.assert_raises(BadDegree(), rank_between, GROWN, value, -1, None)
        for value in BAD_TIMES:
            self.assert_raises(BadTime(), rank_between, GROWN, 0, value, 5)
            self.assert_raises(BadTime(), rank_between, GROWN, 0, 5, value)
        self.assert_raises(BadTime(), rank_between, GROWN, 7, 5, 4)
        self.assert_raises(BadTime(), rank_between, NOTHING, 0, 1000, 999)


class Forests(Judge, unittest.TestCase):
    def judge(self, filtration):
        come = dict(zip(simplices_of(filtration.shape), filtration.times))
        edges = [simplex for simplex in come if len(simplex) == 2]
        found = least_forest(filtration)
        self.assertIsInstance(found, tuple)
        self.assertEqual(list(found), sorted(set(found)))
        self.assertTrue(set(found) <= set(edges))
        # No ring: each edge makes a component less; and as many are left as all edges leave.
        self.assertEqual(span_rank([{edge[0]: 1, edge[1]: -1} for edge in found], 7), len(found))
        self.assertEqual(span_rank([{edge[0]: 1, edge[1]: -1} for edge in edges], 7), len(found))
        return sum(come[edge] for edge in found), edges, come

    def test_least_sum(self):
        """No edge besides is earlier than one on the way between its ends, which is so just for a least sum."""
        for filtration in FILTRATIONS + AT_ONCE:
            _, edges, come = self.judge(filtration)
            forest = least_forest(filtration)
            for edge in edges:
                early = [{other[0]: 1, other[1]: -1} for other in forest if come[other] <= come[edge]]
                self.assertEqual(span_rank(early + [{edge[0]: 1, edge[1]: -1}], 7), len(early))

    def test_against_all_choices(self):
        for seed in range(20):
            source = random.Random(seed)
            edges = source.sample(list(combinations(range(5), 2)), source.randint(3, 8))
            shape = Complex(tuple(edges))
            points = len(simplices_of(shape)) - len(edges)
            filtration = Filtration(shape, (0,) * points + tuple(source.randint(0, 9) for _ in edges))
            total, edges, come = self.judge(filtration)
            size = len(least_forest(filtration))
            sums = [sum(come[edge] for edge in chosen) for chosen in combinations(edges, size)
                    if span_rank([{edge[0]: 1, edge[1]: -1} for edge in chosen], 7) == size]
            self.assertEqual(total, min(sums))

    def test_edges(self):
        self.assertEqual(least_forest(NOTHING), ())
        self.assertEqual(least_forest(Filtration(Complex(((3,), (30,))), (0, 1000))), ())
        self.assertEqual(least_forest(Filtration(Complex(((3, 30),)), (1000, 1000, 1000))), ((3, 30),))
        self.assertEqual(least_forest(Filtration(RING, (0, 0, 0, 9, 1, 1))), ((0, 2), (1, 2)))
        for value in ODD_VALUES + (RING,):
            self.assert_raises(NotFiltration(), least_forest, value)


if __name__ == "__main__":
    unittest.main()
