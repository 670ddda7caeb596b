"""Point 1, over all functions of the interface."""

import importlib
import inspect
import random
import unittest

from judges import EMPTY, FULL, OCTAHEDRON, ODD_VALUES, PROJECTIVE, RING, SPHERE, TORUS
from shapeholes.complexes import Complex, simplices_of
from shapeholes.errors import ShapeError
from shapeholes.filtrations import Filtration
from shapeholes.paths import spanning_tree
from shapeholes.posets import Poset
from shapeholes.surfaces import band, polygon
from shapeholes.workshops import Workshop
from test_interface import FUNCTIONS

TIMED = Filtration(RING, (0,) * 6)
POSET = Poset(3, ((0, 1),))
CYCLE = (((0, 1), 1), ((0, 2), -1), ((1, 2), 1))
TURNED = ((0, 1), (1, 2), (2, 0))
# Values of all kinds, right ones for some functions and wrong ones for others.
VALUES = ODD_VALUES + (
    (), EMPTY, RING, SPHERE, TORUS, PROJECTIVE, OCTAHEDRON, FULL, TIMED, POSET, Poset(0, ()), Workshop(), 2, 3, 4, 5, 7, 8, 1000, 1001,
    (0, 1), (0, 1, 2), (0, 1, 2, 3, 4, 5), (4, 6, 4), (1, 2, -1, -2), ((0, 1), (0, 2)), TURNED, ((0, None), (1, 5)), ((1, 0), (0, 1)),
    ((0, 1), (True, 2)), (True,), (False, 0), ((0, True),), CYCLE, spanning_tree(TORUS), band(PROJECTIVE), polygon(TORUS),
    tuple(simplices_of(RING)), (((0,), (0, 1)),), (RING, RING), ((RING, 1),), (Workshop(),), [RING], {"a": RING}, {(0, 1): 2},
    (((0, 1), 2, [3]),), (None, None), "0 1 2; 2 3", "add 0 1", "core", (1,) * 8, 10 ** 60)
# A right value for each argument, by its name.
GOOD = {
    "shape": TORUS, "one": RING, "other": RING, "simplex": (0,), "vertex": 0, "degree": 1, "vertices": (0, 1), "names": TURNED,
    "text": "", "chain": CYCLE, "prime": 2, "filtration": TIMED, "time": 5, "order": tuple(simplices_of(RING)), "begin": 0, "end": 1,
    "value": (), "number": 5, "size": 2, "counts": (3, 3), "many": 7, "part": RING, "table": ((0, 1),), "parts": (RING,),
    "poset": POSET, "low": 0, "high": 1, "images": (0, 1, 2), "more": TURNED, "tree": spanning_tree(RING), "path": (0, 1), "sheets": 2,
    "way": ((0, 1),), "word": (1, -1), "pairs": (), "row": (RING,), "edge": (0, 2), "rows": ((1, 2), (3, 4)), "doubled": 2,
    "steps": (), "times": (0,) * 6, "simplices": ((0, 1),)}
SHAPES = {"one": (RING, SPHERE, EMPTY), "other": (RING, SPHERE, EMPTY), "shape": (RING, TORUS, PROJECTIVE, OCTAHEDRON, EMPTY)}


def functions():
    for file, signatures in FUNCTIONS.items():
        for signature in signatures:
            found = getattr(importlib.import_module("shapeholes." + file), signature.partition("(")[0])
            yield found, list(inspect.signature(found).parameters)


def told(value):
    """A text of all that a value holds."""
    if isinstance(value, Complex):
        return repr(simplices_of(value))
    if isinstance(value, Filtration):
        return told(value.shape) + repr(value.times)
    if isinstance(value, Poset):
        return repr((value.points, value.pairs))
    if isinstance(value, Workshop):
        return told(value.current) + repr(value.steps)
    if isinstance(value, dict):
        return "{" + "; ".join(told(key) + ": " + told(value[key]) for key in value) + "}"
    if isinstance(value, (list, tuple)):
        return value.__class__.__name__ + "(" + "; ".join(told(item) for item in value) + ")"
    return repr(value)


class Whole(unittest.TestCase):
    def assert_answers(self, call, arguments):
        """The call gives an answer or one of the errors, and leaves its arguments as they are."""
        before = told(arguments)
        try:
            answer = told(call(*arguments))
        except ShapeError as error:
            self.assertNotEqual(type(error), ShapeError)
            answer = repr(error)
        self.assertEqual(told(arguments), before, (call, before))
        return answer

    def test_any_value_in_any_place(self):
        for call, names in functions():
            for place in range(len(names)):
                for value in VALUES:
                    for shapes in range(2):
                        arguments = [SHAPES[known][shapes] if known in SHAPES else GOOD[known] for known in names]
                        arguments[place] = value
                        self.assert_answers(call, tuple(arguments))

    def test_values_drawn_at_random(self):
        source = random.Random(7)
        for call, names in functions():
            for _ in range(150):
                arguments = [source.choice(VALUES) for _ in names]
                for place, name in enumerate(names):
                    if source.random() < 0.6:
                        arguments[place] = source.choice(SHAPES.get(name, (GOOD[name],)))
                self.assert_answers(call, tuple(arguments))

    def test_same_answer_again(self):
        source = random.Random(8)
        for call, names in functions():
            for _ in range(20):
                arguments = tuple(source.choice(SHAPES.get(name, (GOOD[name], GOOD[name], source.choice(VALUES)))) for name in names)
                self.assertEqual(self.assert_answers(call, arguments), self.assert_answers(call, arguments))

    def test_truth_values_are_no_integers(self):
        """Where 0 or 1 is an argument, False and True raise an error or are told not to be it."""
        for call, names in functions():
            for place, name in enumerate(names):
                if name in ("vertex", "degree", "prime", "time", "begin", "end", "number", "size", "many", "low", "high", "sheets"):
                    for value in (False, True):
                        arguments = [GOOD[known] for known in names]
                        arguments[place] = value
                        if names[0] in ("shape", "filtration", "poset", "number", "many"):
                            with self.assertRaises(ShapeError):
                                call(*arguments)

    def test_lists_are_new(self):
        for call, names in functions():
            for shape in (RING, OCTAHEDRON, PROJECTIVE):
                arguments = [GOOD[known] if known not in SHAPES else shape for known in names]
                try:
                    answer = call(*arguments)
                except ShapeError:
                    continue
                if isinstance(answer, list):
                    before = told(answer)
                    answer.clear()
                    self.assertEqual(told(call(*arguments)), before)


if __name__ == "__main__":
    unittest.main()
