"""What stands in which file: the names, arguments and methods of the interface."""

import doctest
import importlib
import inspect
import unittest
from pathlib import Path

README = Path(__file__).resolve().parent.parent / "README.md"

FUNCTIONS = {
    "complexes": ("Complex(simplices)", "simplices_of(shape)", "vertices_of(shape)", "counts_of(shape)",
                  "euler_of(shape)"),
    "parts": ("link(shape, simplex)", "star(shape, simplex)", "deletion(shape, vertex)", "skeleton(shape, degree)",
              "induced(shape, vertices)", "union(one, other)", "meet(one, other)", "join(one, other)",
              "renamed(shape, names)", "components(shape)"),
    "texts": ("write(shape)", "read(text)"),
    "matches": ("isomorphism(one, other)",),
    "chains": ("boundary(chain)", "boundary_rows(shape, degree)"),
    "fields": ("rank_mod(rows, prime)",),
    "smith": ("smith(rows)",),
    "holes": ("holes(shape, degree)", "holes_mod(shape, degree, prime)", "filling(shape, chain)",
              "reading(shape, chain, prime)"),
    "filtrations": ("Filtration(shape, times)", "stage(filtration, time)", "order_of(filtration)"),
    "persistence": ("pairs(filtration, order)", "pairs_by_rows(filtration, order)", "bars(filtration, degree)",
                    "rank_between(filtration, degree, begin, end)", "least_forest(filtration)"),
    "bottleneck": ("bottleneck(one, other)", "is_matching(one, other, value, doubled)"),
    "collapses": ("free_pairs(shape)", "collapsed(shape, steps)", "collapse_fully(shape)", "left_by(shape)",
                  "dominated(shape)", "apexes(shape)", "core(shape)"),
    "nerves": ("nerve(shape)", "row_shape(table)", "column_shape(table)", "cover_nerve(parts)",
               "is_clean_cover(parts, prime)"),
    "shellings": ("is_pure(shape)", "is_shelling(shape, order)", "shelling(shape)", "restrictions(shape, order)"),
    "counts": ("h_numbers(shape)", "is_even_all(shape)", "cascade(number, size)", "least_shadow(number, size)",
               "are_counts(counts)", "compressed(counts)"),
    "duals": ("dual(shape, many)", "missing(shape, many)", "is_clean(shape, prime)",
              "degrees_of_parts(shape, many, prime)"),
    "sequences": ("pair_holes(shape, part, degree, prime)", "pair_ranks(shape, part, degree, prime)",
                  "union_ranks(one, other, degree, prime)"),
    "posets": ("Poset(many, pairs)", "chains_shape(poset)", "interval_shape(poset, low, high)",
               "moebius(poset, low, high)", "is_monotone(one, other, images)",
               "are_fibers_clean(one, other, images, prime)"),
    "subdivisions": ("subdivided(shape)",),
    "maps": ("is_map(one, other, names)", "image_of(one, other, names)", "moved_chain(one, other, names, chain)",
             "map_rank(one, other, names, degree, prime)", "hole_trace(shape, names, degree, prime)",
             "lefschetz(shape, names)", "fixed_simplices(shape, names)", "are_near(one, other, names, more)",
             "fundamental(shape)", "degree_of(one, other, names)"),
    "paths": ("spanning_tree(shape)", "presentation(shape, tree)", "word_of(shape, tree, path)",
              "ways(shape, tree, sheets)", "covering(shape, tree, sheets, way)"),
    "surfaces": ("is_surface(shape)", "orientation(shape)", "band(shape)", "is_turning(shape, value)", "kind(shape)",
                 "connected_sum(one, other)", "polygon(shape)", "word_kind(word)", "normal_word(word)"),
    "matchings": ("is_loopless(shape, pairs)", "critical_counts(shape, pairs)"),
    "zigzags": ("zigzag_bars(row, degree)",),
    "flips": ("flips(shape)", "flipped(shape, edge)", "flip_road(one, other)"),
    "workshops": ("Workshop()", "replayed(text)")}
# The properties and the methods of each class, which stand in the class itself.
CLASSES = {
    "complexes.Complex": (("facets",), ("__eq__(self, other)", "__contains__(self, simplex)")),
    "filtrations.Filtration": (("times",), ("__eq__(self, other)",)),
    "posets.Poset": (("pairs", "points"), ("__eq__(self, other)",)),
    "workshops.Workshop": (("current", "steps"), ("run(self, line)", "undo(self)", "redo(self)"))}


class Interface(unittest.TestCase):
    def test_names_and_arguments(self):
        for file, signatures in FUNCTIONS.items():
            module = importlib.import_module("shapeholes." + file)
            for signature in signatures:
                name = signature.partition("(")[0]
                found = getattr(module, name)
                self.assertEqual(name + str(inspect.signature(found)), signature)
                self.assertEqual(found.__module__, module.__name__)

    def test_classes(self):
        for place, (properties, methods) in CLASSES.items():
            file, _, name = place.partition(".")
            members = vars(getattr(importlib.import_module("shapeholes." + file), name))
            for known in properties:
                self.assertIsInstance(members[known], property)
            for signature in methods:
                method = members[signature.partition("(")[0]]
                self.assertEqual(method.__name__ + str(inspect.signature(method)), signature)

    def test_readme(self):
        found = doctest.testfile(str(README), module_relative=False)
        self.assertEqual(found.failed, 0)
        self.assertGreater(found.attempted, 5)


if __name__ == "__main__":
    unittest.main()
