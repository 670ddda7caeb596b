"""What stands in which file: the names, arguments and methods of the interface."""

import doctest
import importlib
import inspect
import unittest
from pathlib import Path

README = Path(__file__).resolve().parent.parent / "README.md"

FUNCTIONS = {
    "complexes": ("Complex(simplices)", "simplices_of(shape)", "vertices_of(shape)", "counts_of(shape)",
                  "euler_of(shape)"),
    "parts": ("link(shape, simplex)", "star(shape, simplex)", "deletion(shape, vertex)", "skeleton(shape, degree)",
              "induced(shape, vertices)", "union(one, other)", "meet(one, other)", "join(one, other)",
              "renamed(shape, names)", "components(shape)"),
    "texts": ("write(shape)", "read(text)"),
    "matches": ("isomorphism(one, other)",),
    "chains": ("boundary(chain)", "boundary_rows(shape, degree)"),
    "fields": ("rank_mod(rows, prime)",),
    "smith": ("smith(rows)",),
    "holes": ("holes(shape, degree)", "holes_mod(shape, degree, prime)", "filling(shape, chain)",
              "reading(shape, chain, prime)"),
    "filtrations": ("Filtration(shape, times)", "stage(filtration, time)", "order_of(filtration)"),
    "persistence": ("pairs(filtration, order)", "pairs_by_rows(filtration, order)", "bars(filtration, degree)",
                    "rank_between(filtration, degree, begin, end)", "least_forest(filtration)"),
    "bottleneck": ("bottleneck(one, other)", "is_matching(one, other, value, doubled)"),
    "collapses": ("free_pairs(shape)", "collapsed(shape, steps)", "collapse_fully(shape)", "left_by(shape)",
                  "dominated(shape)", "apexes(shape)", "core(shape)"),
    "nerves": ("nerve(shape)", "row_shape(table)", "column_shape(table)", "cover_nerve(parts)",
               "is_clean_cover(parts, prime)"),
    "shellings": ("is_pure(shape)", "is_shelling(shape, order)", "shelling(shape)", "restrictions(shape, order)"),
    "counts": ("h_numbers(shape)", "is_even_all(shape)", "cascade(number, size)", "least_shadow(number, size)",
               "are_counts(counts)", "compressed(counts)"),
    "duals": ("dual(shape, many)", "missing(shape, many)", "is_clean(shape, prime)",
              "degrees_of_parts(shape, many, prime)"),
    "sequences": ("pair_holes(shape, part, degree, prime)", "pair_ranks(shape, part, degree, prime)",
                  "union_ranks(one, other, degree, prime)"),
    "posets": ("Poset(many, pairs)", "chains_shape(poset)", "interval_shape(poset, low, high)",
               "moebius(poset, low, high)", "is_monotone(one, other, images)",
               "are_fibers_clean(one, other, images, prime)"),
    "subdivisions": ("subdivided(shape)",),
    "maps": ("is_map(one, other, names)", "image_of(one, other, names)", "moved_chain(one, other, names, chain)",
             "map_rank(one, other, names, degree, prime)", "hole_trace(shape, names, degree, prime)",
             "lefschetz(shape, names)", "fixed_simplices(shape, names)", "are_near(one, other, names, more)",
             "fundamental(shape)", "degree_of(one, other, names)"),
    "paths": ("spanning_tree(shape)", "presentation(shape, tree)", "word_of(shape, tree, path)",
              "ways(shape, tree, sheets)", "covering(shape, tree, sheets, way)")}
CLASSES = {"complexes.Complex": ("facets",), "filtrations.Filtration": ("times",), "posets.Poset": ("pairs", "points")}


class Interface(unittest.TestCase):
    def test_names_and_arguments(self):
        for file, signatures in FUNCTIONS.items():
            module = importlib.import_module("shapeholes." + file)
            for signature in signatures:
                name = signature.partition("(")[0]
                found = getattr(module, name)
                self.assertEqual(name + str(inspect.signature(found)), signature)
                self.assertEqual(found.__module__, module.__name__)

    def test_classes(self):
        for place, properties in CLASSES.items():
            file, _, name = place.partition(".")
            members = vars(getattr(importlib.import_module("shapeholes." + file), name))
            self.assertIn("__eq__", members)
            for known in properties:
                self.assertIsInstance(members[known], property)
        self.assertIn("__contains__", vars(importlib.import_module("shapeholes.complexes").Complex))

    def test_readme(self):
        found = doctest.testfile(str(README), module_relative=False)
        self.assertEqual(found.failed, 0)
        self.assertGreater(found.attempted, 5)


if __name__ == "__main__":
    unittest.main()
