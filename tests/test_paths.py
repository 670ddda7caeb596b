"""Points 45 to 48."""

import random
import unittest
from itertools import combinations, permutations, product

from judges import (
    EMPTY, FULL, KLEIN, ODD_VALUES, PROJECTIVE, RING, TORUS, Judge, all_parts, cells, closed, disk, faces, moore)
from shapeholes.complexes import Complex, counts_of, euler_of, vertices_of
from shapeholes.errors import BadPath, BadSheets, BadTree, BadWay, NotComplex, NotConnected, TooMany
from shapeholes.parts import components, link, skeleton
from shapeholes.paths import covering, presentation, spanning_tree, ways, word_of

POINT = Complex(((30,),))
EDGE = Complex(((4, 9),))
PATH = ((0, 1), (1, 2))
SQUARE = Complex(((0, 1), (1, 2), (2, 3), (0, 3), (0, 2)))
EIGHT = Complex(((0, 1), (1, 2), (0, 2), (0, 3), (3, 4), (0, 4)))
APART = (EMPTY, Complex(((0,), (1,))), Complex(RING.facets + ((5,),)), Complex(((0, 1), (2, 3))))


def some_connected(seed):
    source = random.Random(seed)
    while True:
        shape = Complex(tuple(tuple(sorted(source.sample(range(6), source.choice((2, 2, 3, 3, 4))))) for _ in range(source.randint(1, 6))))
        if len(components(shape)) == 1:
            return shape


SHAPES = [some_connected(seed) for seed in range(80)] + [
    POINT, EDGE, RING, SQUARE, EIGHT, TORUS, KLEIN, PROJECTIVE, FULL, moore(2), moore(3), skeleton(FULL, 1), skeleton(FULL, 2)]


def some_tree(source, shape):
    """Edges drawn at random, each one kept if it makes no ring."""
    edges = cells(faces(shape), 1)
    found = []
    for edge in source.sample(edges, len(edges)):
        if makes_no_ring(found + [edge]):
            found.append(edge)
    return tuple(sorted(found))


def makes_no_ring(edges):
    parts = []
    for edge in edges:
        touched = [part for part in parts if part & set(edge)]
        if any(set(edge) <= part for part in touched):
            return False
        parts = [part for part in parts if part not in touched] + [set(edge).union(*touched)]
    return True


def are_tree(shape, tree):
    return (isinstance(tree, tuple) and list(tree) == sorted(set(tree)) and set(tree) <= set(cells(faces(shape), 1))
            and makes_no_ring(tree) and len(tree) == len(vertices_of(shape)) - 1)


PAIRS = [(shape, some_tree(random.Random(seed), shape)) for seed, shape in enumerate(SHAPES)]


def generators(shape, tree):
    return [edge for edge in cells(faces(shape), 1) if edge not in tree]


def letters(shape, tree, path):
    found = []
    for one, other in zip(path, path[1:]):
        edge = tuple(sorted((one, other)))
        if one != other and edge not in tree:
            found.append((generators(shape, tree).index(edge) + 1) * (1 if one < other else -1))
    return tuple(found)


def some_path(source, shape, size):
    path = [source.choice(vertices_of(shape))]
    for _ in range(size - 1):
        around = [vertex for edge in cells(faces(shape), 1) if path[-1] in edge for vertex in edge]
        path.append(source.choice(around or path))
    return tuple(path)


def tree_errors(case, call):
    """The errors of a function of a complex and a tree."""
    for value in ODD_VALUES + ((),):
        if not isinstance(value, Complex):
            case.assert_raises(NotComplex(), call, value, None)
    for shape in APART:
        case.assert_raises(NotConnected(), call, shape, None)
    for value in ODD_VALUES + ((), ((0, 1),), ((0, 1), (0, 2), (1, 2)), ((0, 2), (0, 1)), ((0, 1), (0, 1)), [(0, 1), (0, 2)],
                               ((0, 1), (2, 1)), ((0, 1), (0, 3)), ((0,), (0, 1)), ((0, 1), (0, 1, 2)), ((0, 1), (False, 2)),
                               ((0, 1), None), ((0, 1), [0, 2]), ((0, 1), (0, 2), ()), {(0, 1): 1, (0, 2): 1}):
        case.assert_raises(BadTree(), call, RING, value)
    # As many edges as a tree has, but with a ring.
    case.assert_raises(BadTree(), call, SQUARE, ((0, 1), (0, 2), (1, 2)))
    case.assert_raises(BadTree(), call, POINT, ((0, 1),))
    case.assert_raises(BadTree(), call, POINT, ((30,),))
    case.assert_raises(BadTree(), call, POINT, [])


class Trees(Judge, unittest.TestCase):
    def test_spanning_tree(self):
        for shape in SHAPES:
            self.assertTrue(are_tree(shape, spanning_tree(shape)))

    def test_known_ones(self):
        self.assertEqual([spanning_tree(POINT), spanning_tree(EDGE)], [(), ((4, 9),)])
        self.assertEqual(spanning_tree(Complex(((0, 5), (3, 5), (3, 4)))), ((0, 5), (3, 4), (3, 5)))

    def test_errors(self):
        for value in ODD_VALUES + ((),):
            if not isinstance(value, Complex):
                self.assert_raises(NotComplex(), spanning_tree, value)
        for shape in APART:
            self.assert_raises(NotConnected(), spanning_tree, shape)

    def test_all_trees(self):
        """Of all tuples of edges, just those that are trees are taken."""
        for shape in (RING, SQUARE, EIGHT, Complex(((0, 1, 2), (2, 3)))):
            for edges in all_parts(tuple(cells(faces(shape), 1))) + [()]:
                if are_tree(shape, edges):
                    self.assertEqual(presentation(shape, edges)[0], len(generators(shape, edges)))
                else:
                    self.assert_raises(BadTree(), presentation, shape, edges)


class Words(Judge, unittest.TestCase):
    def test_by_definition(self):
        for seed, (shape, tree) in enumerate(PAIRS):
            source = random.Random(seed)
            for size in (1, 2, 3, 10, 100):
                path = some_path(source, shape, size)
                self.assertEqual(word_of(shape, tree, path), letters(shape, tree, path))

    def test_known_ones(self):
        tree = ((0, 1), (0, 2), (0, 3))
        self.assertEqual(word_of(SQUARE, tree, (0, 1, 2, 3, 0)), (1, 2))
        self.assertEqual(word_of(SQUARE, tree, (0, 3, 2, 1, 0)), (-2, -1))
        self.assertEqual(word_of(SQUARE, tree, (1, 2, 2, 1, 1)), (1, -1))
        self.assertEqual([word_of(SQUARE, tree, (3,)), word_of(SQUARE, tree, (3, 3)), word_of(SQUARE, tree, (3, 0, 1))], [()] * 3)
        self.assertEqual([word_of(POINT, (), (30,)), word_of(POINT, (), (30,) * 100)], [(), ()])
        self.assertEqual(word_of(RING, ((0, 1), (1, 2)), (0, 1, 2) * 33 + (0,)), (-1,) * 33)

    def test_100_and_101_items(self):
        self.assertEqual(word_of(EDGE, ((4, 9),), (4, 9) * 50), ())
        self.assert_raises(BadPath(None), word_of, EDGE, ((4, 9),), (4, 9) * 50 + (4,))
        self.assert_raises(BadPath(None), word_of, EDGE, ((4, 9),), ())

    def test_errors(self):
        tree_errors(self, lambda shape, tree: word_of(shape, tree, None))
        tree = ((0, 1), (0, 2), (0, 3))
        for value in (None, 3, True, "", "0", [], [0], {}, {0: 1}, RING, (None,) * 101):
            self.assert_raises(BadPath(None), word_of, SQUARE, tree, value)
        for value in ODD_VALUES + ((), (0,), (0, 1), 4, 30):
            if value not in (0, 1) or isinstance(value, bool):
                self.assert_raises(BadPath(0), word_of, SQUARE, tree, (value,))
                self.assert_raises(BadPath(2), word_of, SQUARE, tree, (0, 1, value, None))
        # 1 and 3 are not connected by an edge.
        self.assert_raises(BadPath(2), word_of, SQUARE, tree, (0, 1, 3))
        self.assert_raises(BadPath(1), word_of, SQUARE, tree, (3, 1, None))
        self.assert_raises(BadPath(1), word_of, SQUARE, tree, (3, 1))
        self.assert_raises(BadPath(99), word_of, SQUARE, tree, (0,) * 99 + (4,))


class Presentations(Judge, unittest.TestCase):
    def test_by_definition(self):
        for shape, tree in PAIRS:
            many, words = presentation(shape, tree)
            self.assertEqual(many, len(generators(shape, tree)))
            self.assertEqual(words, tuple(letters(shape, tree, (a, b, c, a)) for a, b, c in cells(faces(shape), 2)))

    def test_known_ones(self):
        self.assertEqual([presentation(POINT, ()), presentation(EDGE, ((4, 9),))], [(0, ()), (0, ())])
        self.assertEqual(presentation(RING, ((0, 1), (0, 2))), (1, ()))
        self.assertEqual(presentation(Complex(((0, 1, 2),)), ((0, 1), (0, 2))), (1, ((1,),)))
        self.assertEqual(presentation(Complex(((0, 1, 2),)), ((0, 1), (1, 2))), (1, ((-1,),)))
        self.assertEqual(presentation(Complex(((0, 1, 2, 3),)), ((0, 1), (0, 2), (0, 3))),
                         (3, ((1,), (2,), (3,), (1, 3, -2))))
        self.assertEqual(presentation(SQUARE, ((0, 1), (1, 2), (2, 3))), (2, ()))

    def test_errors(self):
        tree_errors(self, presentation)


def leads(way, word, sheet):
    for letter in word:
        sheet = way[letter - 1][sheet] if letter > 0 else [k for k, image in enumerate(way[-letter - 1]) if image == sheet][0]
    return sheet


def are_way(words, sheets, way):
    return all(leads(way, word, sheet) == sheet for word in words for sheet in range(sheets))


class Ways(Judge, unittest.TestCase):
    def test_by_definition(self):
        numbers = set()
        for shape, tree in PAIRS:
            many, words = presentation(shape, tree)
            for sheets in (1, 2, 3):
                if len(list(permutations(range(sheets)))) ** many <= 8000:
                    all_ways = product(permutations(range(sheets)), repeat=many)
                    wanted = sorted(way for way in all_ways if are_way(words, sheets, way))
                    if len(wanted) <= 2000:
                        self.assertEqual(ways(shape, tree, sheets), wanted)
                        numbers.add(len(wanted))
                    else:
                        self.assert_raises(TooMany(2000), ways, shape, tree, sheets)
        self.assertTrue({1, 2, 4, 6, 36} <= numbers, numbers)

    def test_all_are_ways(self):
        """The number of ways does not depend on the tree: it tells about the complex."""
        found = [(POINT, 1, 1), (RING, 2, 6), (EIGHT, 4, 36), (TORUS, 4, 18), (KLEIN, 4, 18), (PROJECTIVE, 2, 4), (FULL, 1, 1),
                 (moore(3), 1, 3), (moore(2), 2, 4), (moore(5), 1, 1), (moore(4), 2, 4), (skeleton(FULL, 2), 1, 1)]
        for shape, twos, threes in found:
            for seed in range(3):
                tree = some_tree(random.Random(seed), shape)
                words = presentation(shape, tree)[1]
                for sheets, number in ((1, 1), (2, twos), (3, threes)):
                    answer = ways(shape, tree, sheets)
                    self.assertEqual(len(answer), number)
                    self.assertEqual(answer, sorted(answer))
                    self.assertTrue(all(len(way) == len(generators(shape, tree)) for way in answer))
                    self.assertTrue(all(are_way(words, sheets, way) for way in answer))
                    self.assertEqual(len(set(answer)), number)

    def test_known_ones(self):
        self.assertEqual([ways(POINT, (), sheets) for sheets in (1, 2, 3)], [[()]] * 3)
        self.assertEqual(ways(RING, PATH, 1), [((0,),)])
        self.assertEqual(ways(RING, PATH, 2), [((0, 1),), ((1, 0),)])
        self.assertEqual(ways(RING, PATH, 3), [(row,) for row in permutations(range(3))])
        self.assertEqual(ways(Complex(((0, 1, 2),)), PATH, 3), [((0, 1, 2),)])

    def test_more_than_2000(self):
        """Rings with one common vertex: each one has a generator of its own."""
        def rings(many):
            return Complex(tuple(edge for k in range(many) for edge in ((0, 2 * k + 1), (0, 2 * k + 2), (2 * k + 1, 2 * k + 2))))
        for many, sheets, number in ((10, 2, 1024), (4, 3, 1296), (11, 1, 1), (15, 1, 1)):
            self.assertEqual(len(ways(rings(many), spanning_tree(rings(many)), sheets)), number)
        for many, sheets in ((11, 2), (15, 2), (5, 3), (15, 3)):
            self.assert_raises(TooMany(2000), ways, rings(many), spanning_tree(rings(many)), sheets)
        shape = skeleton(Complex((tuple(range(8)),)), 1)
        self.assert_raises(TooMany(2000), ways, shape, spanning_tree(shape), 2)
        self.assertEqual(len(ways(shape, spanning_tree(shape), 1)), 1)

    def test_many_triangles(self):
        """Generators that many triangles tie together leave few ways."""
        triangles = random.Random(1).sample(list(combinations(range(16), 3)), 250)
        shape = Complex(tuple(combinations(range(16), 2)) + tuple(triangles))
        tree = spanning_tree(shape)
        for sheets in (2, 3):
            answer = ways(shape, tree, sheets)
            self.assertTrue(all(are_way(presentation(shape, tree)[1], sheets, way) for way in answer))

    def test_errors(self):
        tree_errors(self, lambda shape, tree: ways(shape, tree, 4))
        for value in (0, 4, -1, True, False, None, "2", (2,), [], {}, RING, 10 ** 30):
            self.assert_raises(BadSheets(), ways, RING, PATH, value)
            self.assert_raises(BadSheets(), covering, RING, PATH, value, None)

    def test_list_is_new(self):
        ways(RING, PATH, 2).clear()
        self.assertEqual(len(ways(RING, PATH, 2)), 2)


class Coverings(Judge, unittest.TestCase):
    def by_definition(self, shape, tree, sheets, way):
        vertices = vertices_of(shape)
        found = set()
        for simplex in faces(shape):
            for sheet in range(sheets):
                found.add(tuple(sorted(
                    vertices.index(vertex) * sheets + leads(way, letters(shape, tree, (simplex[0], vertex)), sheet)
                    for vertex in simplex)))
        return found

    def test_by_definition(self):
        for shape, tree in PAIRS:
            for sheets in (1, 2, 3):
                if len(vertices_of(shape)) * sheets > 31 or len(generators(shape, tree)) > 16:
                    continue
                try:
                    found = ways(shape, tree, sheets)
                except TooMany:
                    continue
                for way in found[:3] + found[-3:]:
                    wanted = self.by_definition(shape, tree, sheets, way)
                    self.assertEqual(closed(wanted), wanted)
                    self.assertEqual(faces(covering(shape, tree, sheets, way)), wanted)
                    # Each simplex has as many above it as there are sheets.
                    self.assertEqual(len(wanted), sheets * len(faces(shape)))

    def test_known_ones(self):
        tree = ((0, 1), (1, 2))
        self.assertEqual(covering(RING, tree, 1, ((0,),)), RING)
        self.assertEqual(len(components(covering(RING, tree, 2, ((0, 1),)))), 2)
        hexagon = covering(RING, tree, 2, ((1, 0),))
        self.assertEqual(hexagon.facets, ((0, 2), (0, 5), (1, 3), (1, 4), (2, 4), (3, 5)))
        self.assertEqual(covering(RING, tree, 3, ((1, 2, 0),)).facets,
                         ((0, 3), (0, 7), (1, 4), (1, 8), (2, 5), (2, 6), (3, 6), (4, 7), (5, 8)))
        self.assertEqual([covering(POINT, (), sheets, ()).facets for sheets in (1, 2, 3)],
                         [((0,),), ((0,), (1,)), ((0,), (1,), (2,))])
        self.assertEqual(covering(EDGE, ((4, 9),), 2, ()).facets, ((0, 2), (1, 3)))

    def test_projective_plane(self):
        """Its covering with two sheets is a sphere: one component, no hole but the one inside."""
        tree = spanning_tree(PROJECTIVE)
        above = [covering(PROJECTIVE, tree, 2, way) for way in ways(PROJECTIVE, tree, 2)]
        self.assertEqual(sorted(len(components(shape)) for shape in above), [1, 2])
        for shape in above:
            self.assertEqual(counts_of(shape), (12, 30, 20))
            self.assertEqual(euler_of(shape), 1)
            self.assertTrue(all(len(components(link(shape, (vertex,)))) == 1 for vertex in range(12)))

    def test_31_and_more_vertices(self):
        for many in (10, 11, 15, 16, 31):
            ring = Complex(tuple(tuple(sorted((k, (k + 1) % many))) for k in range(many)))
            tree = spanning_tree(ring)
            for sheets in (1, 2, 3):
                way = (tuple(range(1, sheets)) + (0,),)
                if many * sheets > 31:
                    self.assert_raises(TooMany(31), covering, ring, tree, sheets, way)
                    self.assert_raises(BadWay(), covering, ring, tree, sheets, way + way)
                else:
                    self.assertEqual(counts_of(covering(ring, tree, sheets, way)), (many * sheets, many * sheets))

    def test_more_than_400_simplices(self):
        shape = skeleton(Complex((tuple(range(8)),)), 4)
        tree = spanning_tree(shape)
        self.assertEqual(sum(counts_of(shape)), 218)
        self.assert_raises(TooMany(400), covering, shape, tree, 2, ways(shape, tree, 2)[0])
        self.assertEqual(sum(counts_of(covering(shape, tree, 1, ways(shape, tree, 1)[0]))), 218)

    def test_bad_ways(self):
        tree_errors(self, lambda shape, tree: covering(shape, tree, 4, None))
        for value in ODD_VALUES + ((), ((0, 1), (0, 1)), ((0, 2),), ((0, 0),), ((0,),), ((0, 1, 2),), ((False, True),), ((1, False),),
                                   [(0, 1)], ([0, 1],), ((0, None),), ((0, "1"),), ((0, [1]),), ("01",), (None,), ((1, 2),)):
            self.assert_raises(BadWay(), covering, RING, ((0, 1), (1, 2)), 2, value)
        # The permutations are right, but a word does not lead each sheet back.
        self.assert_raises(BadWay(), covering, Complex(((0, 1, 2),)), ((0, 1), (1, 2)), 2, ((1, 0),))
        self.assert_raises(BadWay(), covering, POINT, (), 2, ((0, 1),))

    def test_all_other_ways_are_bad(self):
        for shape in (PROJECTIVE, moore(3), disk([0, 1, 2], 3)):
            tree = spanning_tree(shape)
            many, words = presentation(shape, tree)
            for seed in range(50):
                source = random.Random(seed)
                way = tuple(tuple(source.sample(range(2), 2)) for _ in range(many))
                if not are_way(words, 2, way):
                    self.assert_raises(BadWay(), covering, shape, tree, 2, way)


class Arguments(unittest.TestCase):
    def test_arguments_stay(self):
        tree, path, way = ((0, 1), (0, 2)), (0, 1, 2), ((1, 0),)
        before = faces(RING)
        word_of(RING, tree, path), presentation(RING, tree), ways(RING, tree, 2), covering(RING, tree, 2, way)
        self.assertEqual([faces(RING), tree, path, way], [before, ((0, 1), (0, 2)), (0, 1, 2), ((1, 0),)])


if __name__ == "__main__":
    unittest.main()
