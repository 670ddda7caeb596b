"""Points 3, 4 and 5."""

import random
import unittest

from judges import EMPTY, FULL, ODD_VALUES, PROJECTIVE, RING, TORUS, Judge, faces, moved_by
from shapeholes.complexes import Complex, counts_of, simplices_of, vertices_of
from shapeholes.errors import (
    BadDegree, BadJoin, BadNames, BadSimplex, BadVertex, BadVertices, NotComplex, TooMany)
from shapeholes.parts import components, deletion, induced, join, link, meet, renamed, skeleton, star, union

TWO = Complex(((0, 1, 2), (2, 3), (4,)))


def some_shape(seed, vertices=range(9)):
    source = random.Random(seed)
    return Complex(tuple(
        tuple(sorted(source.sample(list(vertices), source.randint(1, 4)))) for _ in range(source.randint(0, 7))))


SHAPES = [some_shape(seed) for seed in range(25)] + [EMPTY, RING, TWO, TORUS, FULL]


class Parts(Judge, unittest.TestCase):
    def test_link_and_star(self):
        for shape in SHAPES:
            for simplex in simplices_of(shape):
                mine = set(simplex)
                beside = {face for face in faces(shape)
                          if not mine & set(face) and tuple(sorted(mine | set(face))) in faces(shape)}
                self.assertEqual(faces(link(shape, simplex)), beside)
                around = {face for face in faces(shape)
                          if any(mine <= set(facet) and set(face) <= set(facet) for facet in shape.facets)}
                self.assertEqual(faces(star(shape, simplex)), around)

    def test_link_and_star_of_some(self):
        self.assertEqual(link(TWO, (2,)).facets, ((0, 1), (3,)))
        self.assertEqual(link(TWO, (0, 1, 2)), EMPTY)
        self.assertEqual(link(FULL, (0, 7)).facets, ((1, 2, 3, 4, 5, 6),))
        self.assertEqual(star(TWO, (2,)).facets, ((0, 1, 2), (2, 3)))
        self.assertEqual(star(TWO, (0, 1)).facets, ((0, 1, 2),))
        self.assertEqual(star(FULL, tuple(range(8))), FULL)

    def test_bad_simplex(self):
        for call in (link, star):
            for value in ODD_VALUES + ((), (1, 3), (5,), (0, True), [0, 1], TWO, 2):
                self.assert_raises(BadSimplex(), call, TWO, value)
            self.assert_raises(BadSimplex(), call, EMPTY, ())
            self.assert_raises(NotComplex(), call, ((0, 1),), (0, 9))

    def test_deletion(self):
        for shape in SHAPES:
            for vertex in vertices_of(shape):
                left = {face for face in faces(shape) if vertex not in face}
                self.assertEqual(faces(deletion(shape, vertex)), left)
        self.assertEqual(deletion(Complex(((30,),)), 30), EMPTY)
        for value in (None, 5, -1, 31, True, False, (0,), "0", [0], TWO, 10 ** 50):
            self.assert_raises(BadVertex(), deletion, TWO, value)
        self.assert_raises(BadVertex(), deletion, EMPTY, 0)
        self.assert_raises(NotComplex(), deletion, None, None)

    def test_skeleton(self):
        for shape in SHAPES:
            for degree in range(-1, 8):
                low = {face for face in faces(shape) if len(face) <= degree + 1}
                self.assertEqual(faces(skeleton(shape, degree)), low)
        self.assertEqual(skeleton(FULL, -1), EMPTY)
        self.assertEqual(skeleton(FULL, 7), FULL)
        self.assertEqual(counts_of(skeleton(FULL, 6)), (8, 28, 56, 70, 56, 28, 8))
        for value in (-2, 8, True, False, None, "1", (1,), [], RING, -10 ** 30):
            self.assert_raises(BadDegree(), skeleton, RING, value)
        self.assert_raises(NotComplex(), skeleton, 0, 8)

    def test_induced(self):
        for seed, shape in enumerate(SHAPES):
            chosen = tuple(sorted(random.Random(seed).sample(range(31), 20)))
            within = {face for face in faces(shape) if set(face) <= set(chosen)}
            self.assertEqual(faces(induced(shape, chosen)), within)
        self.assertEqual(induced(TWO, ()), EMPTY)
        self.assertEqual(induced(TWO, tuple(range(31))), TWO)
        self.assertEqual(induced(TWO, (2, 3, 4, 30)).facets, ((2, 3), (4,)))
        for value in (None, 3, [0], [], "01", (1, 0), (0, 0), (0, 31), (-1, 0), (True,), (0, True), (None,), ((0,),),
                      ([],), TWO, tuple(range(32))):
            self.assert_raises(BadVertices(), induced, TWO, value)
        self.assert_raises(NotComplex(), induced, (), None)


class Twos(Judge, unittest.TestCase):
    def test_union_and_meet(self):
        for one in SHAPES[::2]:
            for other in SHAPES[1::2]:
                self.assertEqual(faces(meet(one, other)), faces(one) & faces(other))
                if len(faces(one) | faces(other)) <= 400:
                    self.assertEqual(faces(union(one, other)), faces(one) | faces(other))

    def test_join(self):
        for seed in range(15):
            one, other = some_shape(seed, range(0, 9, 2)), some_shape(seed + 40, range(1, 10, 2))
            both = {tuple(sorted(face + more)) for face in faces(one) for more in faces(other)}
            both |= faces(one) | faces(other)
            if len(both) <= 400:
                self.assertEqual(faces(join(one, other)), both)
            else:
                self.assert_raises(TooMany(400), join, one, other)
        self.assertEqual(join(EMPTY, EMPTY), EMPTY)
        self.assertEqual(join(EMPTY, FULL), FULL)
        self.assertEqual(join(TWO, EMPTY), TWO)
        self.assertEqual(join(Complex(((0,), (5,))), Complex(((3,), (30,)))).facets, ((0, 3), (0, 30), (3, 5), (5, 30)))
        self.assertEqual(join(Complex(((0, 2, 4, 6),)), Complex(((1, 3, 5, 7),))), FULL)

    def test_bad_join(self):
        self.assert_raises(BadJoin(), join, RING, Complex(((2,),)))
        self.assert_raises(BadJoin(), join, Complex(((0, 1, 2, 3),)), Complex(((4, 5, 6, 7, 8),)))
        self.assert_raises(BadJoin(), join, FULL, Complex(((8,),)))
        # Too many simplices too, but the vertices are asked first.
        self.assert_raises(BadJoin(), join, FULL, TORUS)
        self.assert_raises(BadJoin(), join, moved_by(FULL, 8), TORUS)

    def test_too_many(self):
        self.assert_raises(TooMany(400), union, FULL, moved_by(FULL, 8))
        self.assertEqual(sum(counts_of(union(FULL, moved_by(FULL, 1)))), 383)
        points, others = Complex(tuple((k,) for k in range(20))), Complex(tuple((k,) for k in range(20, 31)))
        self.assertEqual(counts_of(join(points, others)), (31, 220))
        # 42 simplices and 8 points make 43 * 9 - 1 = 386 simplices, 9 points 43 * 10 - 1 = 429.
        self.assert_raises(TooMany(400), join, TORUS, Complex(tuple((k,) for k in range(7, 16))))
        self.assertEqual(sum(counts_of(join(TORUS, Complex(tuple((k,) for k in range(7, 15)))))), 386)

    def test_just_four_hundred(self):
        four = union(union(FULL, Complex((tuple(range(8, 15)),))), Complex(((15, 16, 17, 18), (19, 20))))
        self.assertEqual(sum(counts_of(four)), 400)
        self.assert_raises(TooMany(400), union, four, Complex(((30,),)))
        self.assertEqual(union(four, FULL), four)
        # 450 facets in all, more than Complex takes as items, but each one twice.
        ladder = Complex(tuple((k, m) for k in range(15) for m in range(15, 30)))
        self.assertEqual(union(ladder, ladder), ladder)

    def test_many_facets(self):
        # 225 facets and 225 other ones: more than Complex would take as items.
        one = Complex(tuple((k, m) for k in range(15) for m in range(15, 30)))
        other = Complex(tuple((k, m) for k in range(30) for m in range(k + 1, 30) if (k < 15) == (m < 15)))
        self.assert_raises(TooMany(400), union, one, other)
        self.assertEqual(counts_of(meet(one, other)), (30,))

    def test_no_complex(self):
        for call in (union, meet, join):
            for value in ODD_VALUES:
                self.assert_raises(NotComplex(), call, value, RING)
                self.assert_raises(NotComplex(), call, RING, value)


class Names(Judge, unittest.TestCase):
    def test_renamed(self):
        self.assertEqual(renamed(TWO, ((0, 30), (1, 2), (2, 1), (3, 0), (4, 7))).facets, ((0, 1), (1, 2, 30), (7,)))
        self.assertEqual(renamed(EMPTY, ()), EMPTY)
        self.assertEqual(renamed(RING, ((0, 1), (1, 2), (2, 0))), RING)
        for seed, shape in enumerate(SHAPES):
            news = random.Random(seed).sample(range(31), len(vertices_of(shape)))
            fresh = dict(zip(vertices_of(shape), news))
            moved = {tuple(sorted(fresh[vertex] for vertex in face)) for face in faces(shape)}
            self.assertEqual(faces(renamed(shape, tuple(fresh.items()))), moved)

    def test_bad_names(self):
        good = ((0, 3), (1, 4), (2, 5))
        for value in (None, 3, True, [], list(good), (), good[:2], good + ((3, 6),), "abc", RING, {0: 3, 1: 4, 2: 5}):
            self.assert_raises(BadNames(None), renamed, RING, value)
        for item in (None, 1, "14", [1, 4], (1,), (1, 4, 4), (0, 4), (2, 4), (True, 4), (1, True), (1, 31), (1, -1),
                     (1, "4"), (1, [4]), (1, (4,)), (1, 3), ((1,), 4), (1, None), (1, RING), (RING, 1), (None, 4)):
            self.assert_raises(BadNames(1), renamed, RING, (good[0], item, None))
        self.assert_raises(BadNames(2), renamed, RING, ((0, 3), (1, 4), (2, 3)))
        self.assert_raises(BadNames(0), renamed, RING, (good[1], good[0], good[2]))
        self.assert_raises(BadNames(0), renamed, RING, ((False, 3), (1, 4), (2, 5)))
        self.assert_raises(BadNames(None), renamed, EMPTY, ((0, 1),))
        self.assert_raises(NotComplex(), renamed, None, None)

    def test_components(self):
        self.assertEqual(components(TWO), [(0, 1, 2, 3), (4,)])
        self.assertEqual(components(EMPTY), [])
        self.assertEqual(components(Complex(((0, 30), (1, 4), (2,), (3, 4), (3, 9)))), [(0, 30), (1, 3, 4, 9), (2,)])
        self.assertEqual(components(Complex(((5, 9), (3, 9), (1, 5), (2, 4), (0, 4)))), [(0, 2, 4), (1, 3, 5, 9)])
        self.assertEqual(components(PROJECTIVE), [(0, 1, 2, 3, 4, 5)])
        components(TWO).clear()
        self.assertEqual(len(components(TWO)), 2)
        for value in ODD_VALUES:
            self.assert_raises(NotComplex(), components, value)

    def test_components_of_many(self):
        for seed in range(30):
            source = random.Random(seed)
            edges = tuple(tuple(sorted(source.sample(range(31), 2))) for _ in range(18))
            shape = Complex(edges + ((30,),))
            found = components(shape)
            self.assertEqual(sorted(vertex for part in found for vertex in part), list(vertices_of(shape)))
            self.assertEqual(found, sorted(found))
            self.assertTrue(all(part == tuple(sorted(part)) for part in found))
            self.assertTrue(all(any(set(edge) <= set(part) for part in found) for edge in edges))
            for part in found:
                reached = {part[0]}
                for _ in part:
                    reached |= {vertex for edge in edges if reached & set(edge) for vertex in edge}
                self.assertEqual(reached, set(part))

    def test_arguments_stay(self):
        before = RING.facets, simplices_of(RING), TWO.facets, simplices_of(TWO)
        union(RING, TWO), meet(RING, TWO), deletion(TWO, 2), star(TWO, (2,)), link(RING, (1,)), components(TWO)
        self.assert_raises(BadNames(0), renamed, RING, (1, 2, 3))
        self.assertEqual((RING.facets, simplices_of(RING), TWO.facets, simplices_of(TWO)), before)


if __name__ == "__main__":
    unittest.main()
