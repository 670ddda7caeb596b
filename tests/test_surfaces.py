"""Points 49 to 52."""

import random
import unittest
from itertools import combinations, product

from judges import (
    DUNCE, EMPTY, FROZEN, FULL, KLEIN, OCTAHEDRON, ODD_VALUES, PROJECTIVE, RING, SPHERE, TORUS, Judge, border_of_chain,
    disk, faces, grid_surface, grown, moore, moved_by, stirred)
from shapeholes.complexes import Complex, counts_of, vertices_of
from shapeholes.errors import BadLetters, NotComplex, NotSurface, TooMany
from shapeholes.holes import holes
from shapeholes.matches import isomorphism
from shapeholes.parts import components, join, skeleton
from shapeholes.surfaces import (
    band, connected_sum, is_surface, is_turning, kind, normal_word, orientation, polygon, word_kind)

GRID = grid_surface(4, 4, False)
TWO = Complex(((0,), (1,)))
SURFACES = [SPHERE, OCTAHEDRON, TORUS, PROJECTIVE, KLEIN, GRID, grid_surface(3, 4, False), grid_surface(4, 5, True)] + list(FROZEN) + [
    stirred(grown(shape, many, random.Random(many)), 60, random.Random(many))
    for shape in (SPHERE, TORUS, PROJECTIVE, KLEIN) for many in (8, 17, 24, 31)] + [
    connected_sum(one, other) for one, other in product((TORUS, PROJECTIVE, OCTAHEDRON), repeat=2)]

# Two spheres with a common vertex, and with a common edge.
TOUCHING = Complex(SPHERE.facets + moved_by(SPHERE, 3).facets)
HINGED = Complex(SPHERE.facets + moved_by(SPHERE, 2).facets)


def barrel(top, bottom):
    """A sphere of three rings of three vertices, with a vertex on top and one below."""
    triangles = []
    for k in range(3):
        m = (k + 1) % 3
        triangles += [(top, 1 + k, 1 + m), (7 + k, 7 + m, bottom)]
        triangles += [triangle for low in (1, 4) for triangle in ((low + k, low + m, low + k + 3), (low + m, low + k + 3, low + m + 3))]
    return Complex(tuple(tuple(sorted(triangle)) for triangle in triangles))


# A sphere two of whose vertices became one.
PINCHED = barrel(0, 0)
NO_SURFACES = [
    EMPTY, PINCHED, Complex(((0,),)), TWO, RING, Complex(((0, 1, 2),)), FULL, skeleton(FULL, 2), DUNCE, moore(3), TOUCHING, HINGED,
    Complex(SPHERE.facets + moved_by(SPHERE, 4).facets), Complex(((0, 1, 2, 3),)), disk([0, 1, 2], 3),
    Complex(SPHERE.facets + ((4,),)), Complex(SPHERE.facets + ((0, 4),)), Complex(SPHERE.facets + ((0, 1, 4),)),
    Complex(SPHERE.facets + ((4, 5, 6),)), join(RING, Complex(((7,),)))] + [
    Complex(shape.facets[1:]) for shape in SURFACES] + [
    Complex(shape.facets + (vertices_of(shape)[:2] + (30,),)) for shape in (SPHERE, TORUS, PROJECTIVE, KLEIN)]


def are_surface(shape):
    """By the definition, with other means."""
    if len(components(shape)) != 1 or any(len(facet) != 3 for facet in shape.facets):
        return False
    if any(sum(set(edge) <= set(facet) for facet in shape.facets) != 2 for edge in faces(shape) if len(edge) == 2):
        return False
    for vertex in vertices_of(shape):
        edges = [set(facet) - {vertex} for facet in shape.facets if vertex in facet]
        reached = set(edges[0])
        for _ in edges:
            reached = reached.union(*(edge for edge in edges if edge & reached))
        if reached != set().union(*edges):
            return False
    return True


def fits(one, other):
    """Whether the orders of two triangles fit: their common edge has unlike signs."""
    edge = tuple(sorted(set(one) & set(other)))
    signs = [[(-1) ** k for k in range(3) if triangle[:k] + triangle[k + 1:] == edge][0] for triangle in (one, other)]
    return signs[0] != signs[1]


def are_turning(shape, value):
    neighbors = list(zip(value, value[1:]))
    return (len(value) >= 2 and value[0] == value[-1] and set(value) <= set(shape.facets)
            and all(len(set(one) & set(other)) == 2 for one, other in neighbors)
            and sum(not fits(one, other) for one, other in neighbors) % 2 == 1)


def surface_errors(case, call):
    for value in ODD_VALUES + ((),):
        if not isinstance(value, Complex):
            case.assert_raises(NotComplex(), call, value)
    for shape in NO_SURFACES:
        if not are_surface(shape):
            case.assert_raises(NotSurface(), call, shape)


class Surfaces(Judge, unittest.TestCase):
    def test_by_definition(self):
        answers = []
        for shape in SURFACES + NO_SURFACES:
            answers.append(are_surface(shape))
            self.assertIs(is_surface(shape), answers[-1])
        for seed in range(400):
            source = random.Random(seed)
            triangles = list(combinations(range(4 + seed % 2), 3))
            shape = Complex(tuple(source.sample(triangles, source.randint(1, len(triangles)))))
            answers.append(are_surface(shape))
            self.assertIs(is_surface(shape), answers[-1])
        self.assertGreater(answers.count(True), 30)
        self.assertGreater(answers.count(False), 100)

    def test_known_ones(self):
        self.assertTrue(all(is_surface(shape) for shape in SURFACES))
        self.assertFalse(any(is_surface(shape) for shape in NO_SURFACES if shape not in SURFACES))
        self.assertEqual(kind(barrel(0, 10)), (True, 0))
        # Each edge lies in two triangles, but the link of one vertex has two components.
        self.assertIs(is_surface(TOUCHING), False)
        self.assertIs(is_surface(PINCHED), False)
        self.assertIs(is_surface(EMPTY), False)

    def test_no_complex(self):
        for value in ODD_VALUES + ((),):
            if not isinstance(value, Complex):
                self.assert_raises(NotComplex(), is_surface, value)


class Orientations(Judge, unittest.TestCase):
    def test_by_definition(self):
        found = []
        for shape in SURFACES:
            answer = orientation(shape)
            self.assertEqual(answer is None, holes(shape, 2)[0] == 0)
            found.append(answer is None)
            if answer is not None:
                signs = dict(answer)
                self.assertEqual(tuple(triangle for triangle, _ in answer), shape.facets)
                self.assertEqual([answer[0][1], {1, -1} >= set(signs.values())], [1, True])
                for one, other in combinations(shape.facets, 2):
                    if len(set(one) & set(other)) == 2:
                        self.assertEqual(signs[one] == signs[other], fits(one, other))
                self.assertEqual(border_of_chain(answer), {})
        self.assertGreater(found.count(True), 5)
        self.assertGreater(found.count(False), 5)

    def test_known_ones(self):
        self.assertEqual(orientation(SPHERE), (((0, 1, 2), 1), ((0, 1, 3), -1), ((0, 2, 3), 1), ((1, 2, 3), -1)))
        self.assertEqual([orientation(shape) for shape in (PROJECTIVE, KLEIN) + FROZEN], [None] * 4)

    def test_errors(self):
        surface_errors(self, orientation)


class Bands(Judge, unittest.TestCase):
    def test_band(self):
        for shape in SURFACES:
            answer = band(shape)
            self.assertEqual(answer is None, orientation(shape) is not None)
            if answer is not None:
                self.assertIsInstance(answer, tuple)
                self.assertTrue(are_turning(shape, answer))
                self.assertIs(is_turning(shape, answer), True)

    def test_walks(self):
        """Walks of all kinds; on surfaces with an orientation no one is turning."""
        for shape in (SPHERE, OCTAHEDRON, TORUS, PROJECTIVE, KLEIN) + FROZEN:
            answers = set()
            for seed in range(300):
                source = random.Random(seed)
                walk = [source.choice(shape.facets)]
                while len(walk) < 2 or len(walk) < 40 and source.random() < 0.98 and walk[0] != walk[-1]:
                    walk.append(source.choice([other for other in shape.facets if len(set(other) & set(walk[-1])) == 2]))
                answers.add(are_turning(shape, walk))
                self.assertIs(is_turning(shape, tuple(walk)), are_turning(shape, walk))
            self.assertEqual(answers, {False} if orientation(shape) else {False, True})

    def test_triangles_that_come_again(self):
        walk = band(PROJECTIVE)
        self.assertIs(is_turning(PROJECTIVE, walk + walk[1:]), False)
        self.assertIs(is_turning(PROJECTIVE, walk + walk[1:] + walk[1:]), True)
        self.assertIs(is_turning(PROJECTIVE, walk[::-1]), True)
        self.assertIs(is_turning(PROJECTIVE, walk[:-1] + walk[-2:-3:-1] + walk[-1:]), False)
        # There and back again does not change whether it is turning.
        there = [other for other in PROJECTIVE.facets if len(set(other) & set(walk[0])) == 2][0]
        self.assertIs(is_turning(PROJECTIVE, (walk[0], there) + walk), True)
        self.assertIs(is_turning(PROJECTIVE, (walk[0], there, walk[0])), False)

    def test_of_any_value(self):
        walk = band(PROJECTIVE)
        for value in ODD_VALUES + ((), list(walk), walk[:1], walk[1:], walk[:-1], (walk[0],) + walk, walk + (walk[0],),
                                   walk[:-1] + (list(walk[-1]),), walk[:-1] + (None,), ((0, 1), (0, 1)), walk[:1] * 2,
                                   (walk[0][:2],) + walk[1:-1] + (walk[0][:2],), ((0, 1, 2),) * 2, (True,) + walk[1:]):
            self.assertIs(is_turning(PROJECTIVE, value), False)
            self.assertIs(is_turning(TORUS, value), False)
        self.assertIs(is_turning(PROJECTIVE, walk), True)

    def test_errors(self):
        surface_errors(self, band)
        surface_errors(self, lambda shape: is_turning(shape, None))


class Kinds(Judge, unittest.TestCase):
    def test_known_ones(self):
        for shape, wanted in ((SPHERE, (True, 0)), (OCTAHEDRON, (True, 0)), (TORUS, (True, 1)), (GRID, (True, 1)),
                              (PROJECTIVE, (False, 1)), (KLEIN, (False, 2)), (FROZEN[0], (False, 5)), (FROZEN[1], (False, 5))):
            self.assertEqual(kind(shape), wanted)
            self.assertIs(type(kind(shape)[0]), bool)

    def test_by_holes(self):
        for shape in SURFACES:
            rank, torsion = holes(shape, 1)
            self.assertEqual(kind(shape), (False, rank + 1) if torsion else (True, rank // 2))

    def test_errors(self):
        surface_errors(self, kind)


class Sums(Judge, unittest.TestCase):
    def by_definition(self, one, other):
        names = {vertex: k for k, vertex in enumerate(vertices_of(one))}
        glued = dict(zip(other.facets[0], [names[vertex] for vertex in one.facets[0]]))
        for vertex in vertices_of(other):
            if vertex not in glued:
                glued[vertex] = len(vertices_of(one)) + len(glued) - 3
        return Complex(tuple(tuple(sorted(found[vertex] for vertex in facet))
                             for found, shape in ((names, one), (glued, other)) for facet in shape.facets[1:]))

    def test_by_definition(self):
        small = [shape for shape in SURFACES if len(vertices_of(shape)) <= 12]
        for one, other in product(small, repeat=2):
            if len(vertices_of(one)) + len(vertices_of(other)) <= 34:
                both = connected_sum(one, other)
                self.assertEqual(both, self.by_definition(one, other))
                self.assertTrue(is_surface(both))

    def test_kinds_add(self):
        """A handle counts as two crosscaps beside a crosscap."""
        for one, other in product((SPHERE, TORUS, PROJECTIVE, KLEIN, moved_by(TORUS, 9)), repeat=2):
            if len(vertices_of(one)) + len(vertices_of(other)) <= 34:
                kinds = kind(one), kind(other)
                both = all(has_orientation for has_orientation, _ in kinds)
                wanted = sum(number if both or not has_orientation else 2 * number for has_orientation, number in kinds)
                self.assertEqual(kind(connected_sum(one, other)), (both, wanted))

    def test_known_ones(self):
        self.assertEqual(connected_sum(SPHERE, SPHERE).facets,
                         ((0, 1, 3), (0, 1, 4), (0, 2, 3), (0, 2, 4), (1, 2, 3), (1, 2, 4)))
        self.assertEqual(connected_sum(moved_by(SPHERE, 27), moved_by(SPHERE, 9)), connected_sum(SPHERE, SPHERE))
        spread = Complex(((3, 5, 8), (3, 5, 30), (3, 8, 30), (5, 8, 30)))
        self.assertEqual(connected_sum(spread, SPHERE), connected_sum(SPHERE, spread))
        self.assertEqual(isomorphism(connected_sum(SPHERE, TORUS), connected_sum(TORUS, SPHERE)) is None, False)

    def test_31_and_more_vertices(self):
        for many in (29, 30, 31):
            long = grown(SPHERE, many, random.Random(many))
            for one, other in ((long, SPHERE), (SPHERE, long), (long, OCTAHEDRON)):
                number = len(vertices_of(one)) + len(vertices_of(other)) - 3
                if number > 31:
                    self.assert_raises(TooMany(31), connected_sum, one, other)
                else:
                    self.assertEqual(len(vertices_of(connected_sum(one, other))), number)
        wide = grown(TORUS, 17, random.Random(1))
        self.assertEqual(counts_of(connected_sum(wide, wide))[0], 31)
        self.assert_raises(TooMany(31), connected_sum, wide, grown(TORUS, 18, random.Random(1)))

    def test_errors(self):
        surface_errors(self, lambda shape: connected_sum(shape, None))
        surface_errors(self, lambda shape: connected_sum(SPHERE, shape))
        self.assert_raises(NotSurface(), connected_sum, RING, None)
        self.assert_raises(NotSurface(), connected_sum, grown(SPHERE, 31, random.Random(1)), RING)


def all_polygons(shape):
    """The words of all polygons of the triangles of a surface, one for each way to join them; begun anywhere."""
    edges = sorted(edge for edge in faces(shape) if len(edge) == 2)
    around = {edge: [triangle for triangle in shape.facets if set(edge) <= set(triangle)] for edge in edges}
    found = set()
    for joined in combinations(edges, len(shape.facets) - 1):
        part = {triangle: triangle for triangle in shape.facets}
        for edge in joined:
            one, other = (part[triangle] for triangle in around[edge])
            part = {triangle: one if part[triangle] == other else part[triangle] for triangle in part}
        if len(set(part.values())) == 1:
            sides = sorted(set(edges) - set(joined))
            found.add(rim(shape, around, sides))
    return found


def rim(shape, around, sides):
    """The word along the rim of the triangles when all edges but these sides are joined."""
    triangle, start = around[sides[0]][0], sides[0]
    letters, at = [], (triangle, start)
    while not letters or at != (triangle, start):
        place, (tail, head) = at
        edge = tuple(sorted((tail, head)))
        number = sides.index(edge) + 1
        letters.append(number if tail < head else -number)
        # Turn around the head, from triangle to triangle, up to the next side.
        back = tail
        while True:
            tip = [vertex for vertex in place if vertex not in (head, back)][0]
            edge = tuple(sorted((head, tip)))
            if edge in sides:
                at = (place, (head, tip))
                break
            place, back = [other for other in around[edge] if other != place][0], tip
    return least_turn(letters)


def least_turn(word):
    """The least of the words that begin at another letter, or go the other way."""
    turns = [word[k:] + word[:k] for k in range(len(word))]
    back = [-letter for letter in reversed(word)]
    return tuple(min(turns + [back[k:] + back[:k] for k in range(len(word))]))


class Polygons(Judge, unittest.TestCase):
    def test_among_all_polygons(self):
        for shape in (SPHERE, OCTAHEDRON, PROJECTIVE, connected_sum(SPHERE, SPHERE), moved_by(SPHERE, 20),
                      stirred(grown(SPHERE, 7, random.Random(2)), 20, random.Random(2))):
            word = polygon(shape)
            self.assertIsInstance(word, tuple)
            self.assertIn(least_turn(list(word)), all_polygons(shape))

    def test_letters_and_kind(self):
        lengths = set()
        for shape in SURFACES:
            word = polygon(shape)
            lengths.add(len(word))
            # Each triangle joined brings one side more.
            self.assertEqual(len(word), len(shape.facets) + 2)
            numbers = sorted(abs(letter) for letter in word)
            self.assertEqual(numbers, [k // 2 + 1 for k in range(len(word))])
            if len(word) <= 60:
                self.assertEqual(word_kind(word), kind(shape))
        self.assertGreater(max(lengths), 60)

    def test_errors(self):
        surface_errors(self, polygon)


def some_word(seed):
    source = random.Random(seed)
    numbers = source.sample(range(1, 61), source.choice((1, 2, 3, 3, 4, 5, 30)))
    word = [source.choice((1, 1, -1)) * number for number in numbers + numbers]
    if seed % 3 == 0:
        word = [sign * number for number in numbers for sign in (1, -1)]
    source.shuffle(word)
    return tuple(word)


WORDS = [some_word(seed) for seed in range(300)] + [
    (1, -1), (1, 1), (-7, 7), (60, 60), (1, 2, -1, -2), (1, 2, 1, 2), (1, 2, -1, 2), (1, 1, 2, 2), (1, 2, 3, 1, 2, 3),
    (1, 2, 3, -1, -2, -3)]


def kind_of(word):
    """The corners of the polygon that become one vertex are met by walking around it."""
    many = len(word)
    partner = {k: [m for m in range(many) if m != k and abs(word[m]) == abs(word[k])][0] for k in range(many)}
    seen, vertices = set(), 0
    for corner in range(many):
        if corner not in seen:
            vertices += 1
            waiting = [corner]
            while waiting:
                k = waiting.pop()
                if k not in seen:
                    seen.add(k)
                    # Side k begins at corner k, side k - 1 ends there.
                    for side, is_begin in ((k, True), ((k - 1) % many, False)):
                        other = partner[side]
                        at_begin = is_begin == (word[side] == word[other])
                        waiting.append(other if at_begin else (other + 1) % many)
    euler = vertices - many // 2 + 1
    return (False, 2 - euler) if any(word.count(letter) == 2 for letter in word) else (True, (2 - euler) // 2)


class Words(Judge, unittest.TestCase):
    def test_kind(self):
        for word in WORDS:
            self.assertEqual(word_kind(word), kind_of(word))

    def test_kind_of_words_that_are_alike(self):
        for seed, word in enumerate(WORDS):
            source = random.Random(seed)
            cut = source.randrange(len(word))
            names = dict(zip(range(1, 61), source.sample(range(1, 61), 60)))
            flips = {number: source.choice((1, -1)) for number in range(1, 61)}
            self.assertEqual(word_kind(word[cut:] + word[:cut]), word_kind(word))
            self.assertEqual(word_kind(tuple(-letter for letter in reversed(word))), word_kind(word))
            self.assertEqual(word_kind(tuple(flips[abs(letter)] * names[abs(letter)] * (1 if letter > 0 else -1) for letter in word)),
                             word_kind(word))

    def test_known_ones(self):
        for word, wanted in (
                ((1, -1), (True, 0)), ((-1, 1), (True, 0)), ((1, 1), (False, 1)), ((-1, -1), (False, 1)), ((1, 2, -1, -2), (True, 1)),
                ((1, 2, -1, 2), (False, 2)), ((1, 2, 1, 2), (False, 1)), ((1, 1, 2, 2), (False, 2)), ((1, -1, 2, -2), (True, 0)),
                ((1, 2, -2, -1), (True, 0)), ((1, 2, 3, -1, -2, -3), (True, 1)), ((1, 1, 2, 3, -2, -3), (False, 3)),
                ((1, 2, 3, 4, -1, -2, -3, -4), (True, 2)), ((60, -60), (True, 0))):
            self.assertEqual(word_kind(word), wanted)
            self.assertIs(type(word_kind(word)[0]), bool)

    def test_normal_word(self):
        for word in WORDS:
            has_orientation, number = word_kind(word)
            normal = normal_word(word)
            self.assertEqual(word_kind(normal), word_kind(word))
            if not has_orientation:
                wanted = [letter for k in range(1, number + 1) for letter in (k, k)]
            else:
                wanted = [letter for k in range(number) for letter in (2 * k + 1, 2 * k + 2, -2 * k - 1, -2 * k - 2)]
            self.assertEqual(normal, tuple(wanted) or (1, -1))
        self.assertEqual([normal_word((5, -5)), normal_word((5, 5)), normal_word((1, 2, -1, 2)), normal_word((1, 2, -1, -2))],
                         [(1, -1), (1, 1), (1, 1, 2, 2), (1, 2, -1, -2)])

    def test_2_60_and_61_letters(self):
        crosscaps = tuple(letter for k in range(1, 31) for letter in (k, k))
        self.assertEqual([word_kind(crosscaps), normal_word(crosscaps)], [(False, 30), crosscaps])
        handles = tuple(letter for k in range(1, 31, 2) for letter in (k, k + 1, -k, -k - 1))
        self.assertEqual([word_kind(handles), normal_word(handles)], [(True, 15), handles])
        for call in (word_kind, normal_word):
            for value in (crosscaps + (31,), crosscaps + (31, 31), (), (1,), (0,), (None,) * 61):
                self.assert_raises(BadLetters(None), call, value)

    def test_errors(self):
        for call in (word_kind, normal_word):
            for value in (None, 3, True, "", "11", [], [1, 1], {}, {1: 1, 2: 2}, RING):
                self.assert_raises(BadLetters(None), call, value)
            for value in (0, 61, -61, True, False, None, "1", (1,), [], {}, RING, 10 ** 30, -10 ** 30):
                self.assert_raises(BadLetters(0), call, (value, 1))
                self.assert_raises(BadLetters(2), call, (1, -1, value, 2))
                # What is no letter comes ahead of a number that does not occur twice.
                self.assert_raises(BadLetters(3), call, (1, 2, 2, value))
            for word, index in (((1, 2), 0), ((1, 1, 2, 3), 2), ((1, 1, 1, 2), 0), ((2, 1, 1, 2, 1), 1), ((1, 1, 1, 1), 0),
                                ((1, -1, 1), 0), ((4, -4, 3, 4, 3), 0), ((3, 3, 4, -4, 5), 4), ((1, -1, 2, -2, 1, -1), 0)):
                self.assert_raises(BadLetters(index), call, word)


class Arguments(unittest.TestCase):
    def test_arguments_stay(self):
        before = faces(KLEIN), KLEIN.facets
        is_surface(KLEIN), orientation(KLEIN), is_turning(KLEIN, band(KLEIN)), kind(KLEIN), polygon(KLEIN)
        connected_sum(KLEIN, TORUS)
        self.assertEqual((faces(KLEIN), KLEIN.facets), before)


if __name__ == "__main__":
    unittest.main()
