"""Point 54."""

import unittest

from shapeholes import errors

FIELDS = {
    "NotComplex": None, "BadSimplices": "index", "TooMany": "most", "BadSimplex": None, "BadVertex": None,
    "BadVertices": None, "BadDegree": None, "BadJoin": None, "BadNames": "index", "NotText": None,
    "InvalidText": "place", "BadChain": "index", "NotCycle": None, "BadMatrix": None, "BadPrime": None,
    "NotFiltration": None, "BadTimes": "index", "BadTime": None, "BadOrder": "index", "BadBars": "index",
    "BadPairs": "index", "NotPure": None, "NotShelling": None, "BadCounts": "index", "BadNumber": None,
    "BadMany": None, "FullComplex": None, "BadPart": None, "BadTable": None, "BadCover": "index", "NotPoset": None,
    "BadRelation": "index", "BadPoint": None, "BadInterval": None, "BadImages": None, "BadMap": None,
    "NotOriented": None, "NotConnected": None, "BadTree": None, "BadPath": "index", "BadSheets": None,
    "BadWay": None, "NotSurface": None, "BadLetters": "index", "BadMatching": None, "BadRow": "index",
    "NotFlip": None, "InvalidLine": "word", "NothingToUndo": None, "NothingToRedo": None}


class Errors(unittest.TestCase):
    def test_base(self):
        self.assertEqual(errors.ShapeError.__bases__, (ValueError,))

    def test_all_are_direct_subclasses(self):
        for name in FIELDS:
            self.assertEqual(getattr(errors, name).__bases__, (errors.ShapeError,), name)

    def test_no_other_ones(self):
        found = {name for name, value in vars(errors).items() if isinstance(value, type)}
        self.assertEqual(found, set(FIELDS) | {"ShapeError"})

    def test_fields(self):
        for name, field in FIELDS.items():
            if field is None:
                self.assertEqual(vars(getattr(errors, name)()), {}, name)
                continue
            for value in (3, None):
                error = getattr(errors, name)(value)
                self.assertEqual(vars(error), {field: value}, name)
                self.assertEqual(error.args, (value,), name)
            with self.assertRaises(TypeError):
                getattr(errors, name)()


if __name__ == "__main__":
    unittest.main()
