"""Points 57 and 58."""

import random
import unittest

from judges import (
    DUNCE, EMPTY, FULL, KLEIN, OCTAHEDRON, ODD_VALUES, PROJECTIVE, RING, SPHERE, TORUS, Judge, faces, moved_by)
from shapeholes import errors
from shapeholes.collapses import core, dominated, left_by
from shapeholes.complexes import Complex
from shapeholes.duals import dual
from shapeholes.errors import (
    BadDegree, BadJoin, BadMany, BadSimplex, BadVertex, FullComplex, InvalidLine, NotFlip, NothingToRedo, NothingToUndo,
    NotSurface, NotText, TooMany)
from shapeholes.flips import flipped, flips
from shapeholes.matches import isomorphism
from shapeholes.nerves import nerve
from shapeholes.parts import deletion, induced, join, link, skeleton, star, union
from shapeholes.subdivisions import subdivided
from shapeholes.workshops import Workshop, replayed

NO_TEXTS = tuple(value for value in ODD_VALUES if not isinstance(value, str)) + ((), RING, Workshop())


def shop_with(shape):
    shop = Workshop()
    for facet in shape.facets:
        shop.run("add " + " ".join(map(str, facet)))
    return shop


def state(shop):
    return shop.current, shop.steps


class Shops(Judge, unittest.TestCase):
    def assert_fails(self, error, shop, line):
        """A call that raises an error changes nothing, not even what can be done again."""
        before = state(shop)
        self.assert_raises(error, shop.run, line)
        self.assertEqual(state(shop), before)

    def test_new_one(self):
        self.assertEqual(state(Workshop()), (EMPTY, ()))
        self.assert_raises(NothingToUndo(), Workshop().undo)
        self.assert_raises(NothingToRedo(), Workshop().redo)

    def test_example(self):
        shop = Workshop()
        self.assertIsNone(shop.run("add 0 1"))
        self.assertIsNone(shop.run("suspend 2 3"))
        self.assertEqual([shop.current.facets, shop.steps], [((0, 1, 2), (0, 1, 3)), ("add 0 1", "suspend 2 3")])

    def test_undo_and_redo(self):
        shop = Workshop()
        states = [state(shop)]
        for line in ("add 0 1", "  cone   2 ", "add 5", "delete 1"):
            shop.run(line)
            states.append(state(shop))
        self.assertEqual(shop.steps, ("add 0 1", "  cone   2 ", "add 5", "delete 1"))
        for wanted in states[-2::-1]:
            self.assertIsNone(shop.undo())
            self.assertEqual(state(shop), wanted)
        self.assert_raises(NothingToUndo(), shop.undo)
        self.assertEqual(state(shop), (EMPTY, ()))
        for wanted in states[1:]:
            self.assertIsNone(shop.redo())
            self.assertEqual(state(shop), wanted)
        self.assert_raises(NothingToRedo(), shop.redo)
        self.assertEqual(state(shop), states[-1])

    def test_new_step_behind_an_undo(self):
        shop = replayed("add 0 1\nadd 1 2\nadd 2 3")
        shop.undo()
        shop.undo()
        shop.run("add 5")
        self.assertEqual(state(shop), (Complex(((0, 1), (5,))), ("add 0 1", "add 5")))
        self.assert_raises(NothingToRedo(), shop.redo)
        shop.undo()
        shop.redo()
        self.assertEqual(shop.steps, ("add 0 1", "add 5"))
        self.assert_raises(NothingToRedo(), shop.redo)

    def test_error_behind_an_undo(self):
        """A line that fails does not forget what was taken back."""
        shop = replayed("add 0 1\nadd 1 2")
        shop.undo()
        for error, line in ((InvalidLine(1), "oops"), (BadVertex(), "delete 9"), (NotText(), None), (BadJoin(), "cone 0")):
            self.assert_fails(error, shop, line)
        shop.redo()
        self.assertEqual(shop.steps, ("add 0 1", "add 1 2"))
        self.assertEqual(shop.current.facets, ((0, 1), (1, 2)))

    def test_against_a_list(self):
        """Steps, undo and redo at random, beside a list of all states."""
        lines = ("add 0 1", "add 1 2 3", "cone 9", "delete 1", "keep 0 2 9", "skeleton 1", "core", "collapse", "nonsense", "flip 0 1")
        for seed in range(40):
            source, shop = random.Random(seed), Workshop()
            states, at = [state(shop)], 0
            for _ in range(40):
                action = source.choice(("run", "run", "undo", "redo"))
                try:
                    if action == "run":
                        line = source.choice(lines)
                        shop.run(line)
                        states, at = states[:at + 1] + [state(shop)], at + 1
                        self.assertEqual(states[at][1], states[at - 1][1] + (line,))
                    elif action == "undo":
                        shop.undo()
                        at -= 1
                    else:
                        shop.redo()
                        at += 1
                except errors.ShapeError as error:
                    self.assertEqual(isinstance(error, NothingToUndo), action == "undo" and at == 0)
                    self.assertEqual(isinstance(error, NothingToRedo), action == "redo" and at == len(states) - 1)
                self.assertEqual(state(shop), states[at])

    def test_shops_stand_alone(self):
        one, other = Workshop(), Workshop()
        one.run("add 0")
        self.assertEqual([state(one)[1], state(other)], [("add 0",), (EMPTY, ())])

    def test_no_text(self):
        shop = replayed("add 0 1")
        for value in NO_TEXTS:
            self.assert_fails(NotText(), shop, value)
            self.assert_raises(NotText(), replayed, value)


class Lines(Judge, unittest.TestCase):
    def assert_invalid(self, word, *lines):
        shop = replayed("add 0 1 2")
        for line in lines:
            self.assert_raises(InvalidLine(word), shop.run, line)
            if line and "\n" not in line:
                self.assert_raises(InvalidLine(word), replayed, line)
        self.assertEqual(shop.steps, ("add 0 1 2",))

    def test_without_words(self):
        self.assert_invalid(1, "", " ", "     ")

    def test_first_word(self):
        self.assert_invalid(1, "oops", "Add 0", "ADD 0", "0", "add,", "0 add", "  unknown 1 1", "add\t0", "\tadd 0", "addd", "ad", "left_by",
                            "union 0", "cone2", "run", "undo", "__init__", "\n", "\nadd 0", "add\n0", "core\n", "add\u00a00")

    def test_words_that_are_lacking(self):
        self.assert_invalid(2, "add", "cone", "suspend", "delete", "skeleton", "dual", "link", "star", "flip", "  add  ")
        self.assert_invalid(3, "suspend 1", " suspend   30 ")

    def test_words_too_many(self):
        self.assert_invalid(2, "core 1", "collapse 0", "nerve 2", "subdivide 3", "subdivide x", "core core")
        self.assert_invalid(3, "cone 3 4", "delete 0 1", "skeleton 1 2", "skeleton 1 1", "dual 5 6", "dual 5 oops", "delete 0 0")
        self.assert_invalid(4, "suspend 3 4 5", "suspend 3 4 oops")
        for word in ("add", "link", "star", "keep", "flip"):
            self.assert_invalid(10, word + " 0 1 2 3 4 5 6 7 8", word + " 0 1 2 3 4 5 6 7 8 9", word + " 0 1 2 3 4 5 6 7 x")

    def test_numbers(self):
        for number in ("31", "00", "01", "030", "-1", "+1", "-0", "1.0", "x", "1x", "1,", "999999", "9" * 5000, "0" * 5000, "\u0661",
                       "\u00b2", "1\n", "1\t", "1_0", "0x1", "None", "(1)"):
            for word in ("add", "cone", "suspend", "delete", "skeleton", "dual", "link", "star", "keep", "flip"):
                self.assert_invalid(2, word + " " + number, word + " " + number + " " + number)
            for word in ("add", "suspend", "link", "star", "keep", "flip"):
                self.assert_invalid(3, word + " 0 " + number, "  " + word + "  1   " + number + "   2")

    def test_unlike_numbers(self):
        for word in ("add", "suspend", "link", "star", "keep", "flip"):
            self.assert_invalid(3, word + " 1 1", word + " 30 30 30")
        for word in ("add", "link", "star", "keep", "flip"):
            self.assert_invalid(5, word + " 1 2 3 2 x")
            self.assert_invalid(10, word + " 0 1 2 3 4 5 6 7 7")

    def test_spaces(self):
        for line in ("add 0 1 2", " add 0 1 2", "add 0 1 2   ", "   add    0   1  2 "):
            shop = Workshop()
            shop.run(line)
            self.assertEqual(state(shop), (Complex(((0, 1, 2),)), (line,)))

    def test_ahead_of_other_errors(self):
        shop = Workshop()
        for line in ("delete 9 x", "link 9 9", "flip 0 1 1", "dual 0 0"):
            with self.assertRaises(InvalidLine):
                shop.run(line)


class Steps(Judge, unittest.TestCase):
    def assert_step(self, shape, line, wanted):
        shop = shop_with(shape)
        steps = shop.steps
        shop.run(line)
        self.assertEqual(state(shop), (wanted, steps + (line,)))
        shop.undo()
        self.assertEqual(state(shop), (shape, steps))

    def assert_error(self, error, shape, *lines):
        shop = shop_with(shape)
        steps = shop.steps
        for line in lines:
            self.assert_raises(error, shop.run, line)
            self.assertEqual(state(shop), (shape, steps))

    def test_add(self):
        for shape in (EMPTY, RING, TORUS):
            for line, simplex in (("add 0", (0,)), ("add 30", (30,)), ("add 2 1 0", (0, 1, 2)), ("add 7 6 5 4 3 2 1 0", tuple(range(8))),
                                  ("add 30 10 20", (10, 20, 30))):
                self.assert_step(shape, line, union(shape, Complex((simplex,))))
        self.assert_error(TooMany(400), FULL, "add 8 9 10 11 12 13 14 15")
        self.assert_step(FULL, "add 8 9 10 11 12 13 14", union(FULL, Complex((tuple(range(8, 15)),))))

    def test_cone_and_suspend(self):
        for shape in (EMPTY, RING, TORUS):
            self.assert_step(shape, "cone 30", join(shape, Complex(((30,),))))
            self.assert_step(shape, "suspend 29 8", join(shape, Complex(((8,), (29,)))))
        self.assert_error(BadJoin(), RING, "cone 0", "cone 2", "suspend 2 9", "suspend 9 2", "suspend 0 1")
        self.assert_error(BadJoin(), FULL, "cone 8", "suspend 8 9", "cone 0")
        self.assert_error(TooMany(400), Complex((tuple(range(7)), tuple(range(4, 11)))), "suspend 12 13")
        self.assert_error(BadJoin(), Complex(((0, 1, 2, 3, 4, 5, 6, 7), (8, 9))), "cone 20")

    def test_delete_and_skeleton(self):
        for shape in (RING, TORUS, Complex(((0, 1, 2, 3), (3, 4)))):
            self.assert_step(shape, "delete 2", deletion(shape, 2))
            for degree in range(8):
                self.assert_step(shape, f"skeleton {degree}", skeleton(shape, degree))
        self.assert_step(Complex(((30,),)), "delete 30", EMPTY)
        self.assert_error(BadVertex(), RING, "delete 3", "delete 30")
        self.assert_error(BadVertex(), EMPTY, "delete 0")
        self.assert_error(BadDegree(), RING, "skeleton 8", "skeleton 30")

    def test_dual(self):
        for shape in (EMPTY, RING, SPHERE, PROJECTIVE, TORUS):
            for many in (6, 7, 8):
                if many > max([-1] + [vertex for facet in shape.facets for vertex in facet]):
                    self.assert_step(shape, f"dual {many}", dual(shape, many))
        self.assert_error(BadMany(), RING, "dual 0", "dual 2", "dual 9", "dual 30")
        self.assert_error(FullComplex(), FULL, "dual 8")
        self.assert_error(BadMany(), FULL, "dual 7")

    def test_link_and_star(self):
        for shape in (TORUS, Complex(((0, 1, 2, 3), (3, 4)))):
            for facet in (shape.facets[0], shape.facets[0][:2], shape.facets[0][1:2]):
                numbers = " ".join(map(str, facet[::-1]))
                self.assert_step(shape, "link " + numbers, link(shape, facet))
                self.assert_step(shape, "star " + numbers, star(shape, facet))
        self.assert_step(FULL, "link 7 6 5 4 3 2 1 0", EMPTY)
        self.assert_error(BadSimplex(), RING, "link 0 1 2", "link 3", "star 2 1 0", "star 30", "link 0 1 2 3 4 5 6 7")
        self.assert_error(BadSimplex(), EMPTY, "link 0", "star 0")

    def test_keep(self):
        for shape in (EMPTY, RING, TORUS, FULL):
            self.assert_step(shape, "keep", EMPTY)
            self.assert_step(shape, "keep 5 30 0", induced(shape, (0, 5, 30)))
            self.assert_step(shape, "keep 7 6 5 4 3 2 1 0", induced(shape, tuple(range(8))))

    def test_flip(self):
        for shape in (OCTAHEDRON, KLEIN, moved_by(OCTAHEDRON, 20)):
            for edge in flips(shape)[:5]:
                self.assert_step(shape, f"flip {edge[1]} {edge[0]}", flipped(shape, edge))
        self.assert_error(NotSurface(), RING, "flip 0 1", "flip 9", "flip 0 1 2 3 4 5 6 7")
        self.assert_error(NotSurface(), EMPTY, "flip 0 1")
        self.assert_error(NotFlip(), SPHERE, "flip 0 1", "flip 0", "flip 0 1 2", "flip 4 5", "flip 0 1 2 3 4 5 6 7")

    def test_core_and_collapse(self):
        for shape in (EMPTY, RING, TORUS, FULL, DUNCE, Complex(((0, 1, 2), (2, 3), (3, 4), (4, 5), (3, 5)))):
            shop = shop_with(shape)
            shop.run("core")
            self.assertEqual(dominated(shop.current), [])
            self.assertIsNotNone(isomorphism(shop.current, core(shape)))
            self.assert_step(shape, "collapse", left_by(shape))
        self.assert_step(RING, " core ", RING)

    def test_nerve_and_subdivide(self):
        for shape in (EMPTY, RING, SPHERE, FULL):
            self.assert_step(shape, "nerve", nerve(shape))
        for shape in (EMPTY, RING, SPHERE, PROJECTIVE):
            self.assert_step(shape, "subdivide", subdivided(shape))
        self.assert_error(TooMany(8), TORUS, "nerve")
        self.assert_error(TooMany(31), TORUS, "subdivide")
        self.assert_error(TooMany(400), Complex(((0, 1, 2, 3, 4),)), "subdivide")


class Replays(Judge, unittest.TestCase):
    def test_known_ones(self):
        shop = replayed("add 0 1\nsuspend 2 3\n cone 9  \nlink 9")
        self.assertIsInstance(shop, Workshop)
        self.assertEqual(shop.steps, ("add 0 1", "suspend 2 3", " cone 9  ", "link 9"))
        self.assertEqual(shop.current.facets, ((0, 1, 2), (0, 1, 3)))
        shop.undo()
        self.assertEqual(len(faces(shop.current)), 23)
        self.assertEqual(state(replayed("keep")), (EMPTY, ("keep",)))

    def test_empty_text(self):
        shop = replayed("")
        self.assertIsInstance(shop, Workshop)
        self.assertEqual(state(shop), (EMPTY, ()))
        self.assert_raises(NothingToUndo(), shop.undo)

    def test_same_as_run(self):
        lines = ["add 0 1 2", "add 2 3", "cone 7", "dual 8", "core", "collapse"]
        shop = Workshop()
        for line in lines:
            shop.run(line)
        self.assertEqual(state(replayed("\n".join(lines))), state(shop))

    def test_errors(self):
        # A line without words stands behind a last newline.
        for text in ("\n", "add 0\n", "\nadd 0", "add 0\n\nadd 1", " ", "add 0\n  "):
            self.assert_raises(InvalidLine(1), replayed, text)
        self.assert_raises(InvalidLine(3), replayed, "add 0 1\nadd 1 1")
        self.assert_raises(InvalidLine(2), replayed, "add 0\r\nadd 1")
        self.assert_raises(BadVertex(), replayed, "add 0\ndelete 1\noops")
        self.assert_raises(BadJoin(), replayed, "add 0\ncone 0")
        # Only newlines stand between lines.
        self.assert_raises(InvalidLine(2), replayed, "add 0\x0badd 1")


if __name__ == "__main__":
    unittest.main()
