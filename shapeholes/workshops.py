"""A workshop, in which lines of text change a complex step by step."""

from shapeholes.collapses import core, left_by
from shapeholes.complexes import Complex
from shapeholes.duals import dual
from shapeholes.errors import InvalidLine, NotText, NothingToRedo, NothingToUndo
from shapeholes.flips import flipped
from shapeholes.nerves import nerve
from shapeholes.parts import deletion, induced, join, link, skeleton, star, union
from shapeholes.simplices import LAST_VERTEX
from shapeholes.subdivisions import subdivided


class Workshop:
    """A complex that steps change, and the steps that led to it."""

    def __init__(self):
        self._shapes = [Complex(())]
        self._lines = []
        # The lines that were taken back, with the complexes behind them; the last one comes first again.
        self._taken_back = []

    @property
    def current(self):
        return self._shapes[-1]

    @property
    def steps(self):
        return tuple(self._lines)

    def run(self, line):
        shape = changed(self._shapes[-1], line)
        self._lines.append(line)
        self._shapes.append(shape)
        self._taken_back = []

    def undo(self):
        if not self._lines:
            raise NothingToUndo("no step is left to be taken back")
        self._taken_back.append((self._lines.pop(), self._shapes.pop()))

    def redo(self):
        if not self._taken_back:
            raise NothingToRedo("no step has been taken back")
        line, shape = self._taken_back.pop()
        self._lines.append(line)
        self._shapes.append(shape)


def replayed(text):
    check_text(text)
    shop = Workshop()
    for line in text.split("\n") if text else []:
        shop.run(line)
    return shop


def check_text(text):
    if not isinstance(text, str):
        raise NotText("a string is needed")


def changed(shape, line):
    """What the step of a line makes of a complex."""
    check_text(line)
    word, numbers = parsed([word for word in line.split(" ") if word])
    action = ACTIONS[word]
    return action(shape, numbers)


def parsed(words):
    """The first word of a line and the list of its numbers."""
    if not words or words[0] not in LIMITS:
        raise InvalidLine(1)
    least, most = LIMITS[words[0]]
    numbers = []
    for k in range(1, len(words)):
        number = number_of(words[k])
        if number is None or number in numbers or k > most:
            raise InvalidLine(k + 1)
        numbers.append(number)
    if len(numbers) < least:
        raise InvalidLine(len(words) + 1)
    return words[0], numbers


def number_of(word):
    """The number from 0 to the last vertex that a word is, None for any other word."""
    # The length is asked before the value: Python does not convert numbers of any length.
    if len(word) > len(str(LAST_VERTEX)) or not all([sign in "0123456789" for sign in word]):
        return None
    number = int(word)
    return number if number <= LAST_VERTEX and str(number) == word else None


def simplex_of(numbers):
    return tuple(sorted(numbers))


def add_simplex(shape, numbers):
    return union(shape, Complex((simplex_of(numbers),)))


def join_points(shape, numbers):
    return join(shape, Complex(tuple([(number,) for number in numbers])))


def delete_vertex(shape, numbers):
    return deletion(shape, numbers[0])


def keep_degrees(shape, numbers):
    return skeleton(shape, numbers[0])


def take_dual(shape, numbers):
    return dual(shape, numbers[0])


def take_link(shape, numbers):
    return link(shape, simplex_of(numbers))


def take_star(shape, numbers):
    return star(shape, simplex_of(numbers))


def keep_vertices(shape, numbers):
    return induced(shape, simplex_of(numbers))


def flip_edge(shape, numbers):
    return flipped(shape, simplex_of(numbers))


def take_core(shape, _):
    return core(shape)


def collapse(shape, _):
    return left_by(shape)


def take_nerve(shape, _):
    return nerve(shape)


def subdivide(shape, _):
    return subdivided(shape)


# How many numbers follow each first word, at least and at most.
LIMITS = {
    "add": (1, 8), "cone": (1, 1), "suspend": (2, 2), "delete": (1, 1), "skeleton": (1, 1), "dual": (1, 1),
    "link": (1, 8), "star": (1, 8), "keep": (0, 8), "flip": (1, 8), "core": (0, 0), "collapse": (0, 0),
    "nerve": (0, 0), "subdivide": (0, 0)}
ACTIONS = {
    "add": add_simplex, "cone": join_points, "suspend": join_points, "delete": delete_vertex,
    "skeleton": keep_degrees, "dual": take_dual, "link": take_link, "star": take_star, "keep": keep_vertices,
    "flip": flip_edge, "core": take_core, "collapse": collapse, "nerve": take_nerve, "subdivide": subdivide}
