"""Vertices and simplices: what is one, and their faces."""

from shapeholes.errors import BadDegree

LAST_VERTEX = 30
MOST_VERTICES = 8


def is_integer(value):
    """Whether a value is an integer; True and False are none here."""
    return isinstance(value, int) and not isinstance(value, bool)


def is_vertex(value):
    return is_integer(value) and 0 <= value <= LAST_VERTEX


def is_ascending(value):
    """Whether a value is an ascending tuple of unlike vertices, perhaps of none."""
    if not isinstance(value, tuple) or not all([is_vertex(item) for item in value]):
        return False
    return all([value[k - 1] < value[k] for k in range(1, len(value))])


def is_simplex(value):
    return is_ascending(value) and 1 <= len(value) <= MOST_VERTICES


def faces_of(simplex):
    """All faces of a simplex, the simplex itself too."""
    parts = [()]
    for vertex in simplex:
        parts = parts + [part + (vertex,) for part in parts]
    return parts[1:]


def without_place(simplex, place):
    """A simplex less the vertex at a place."""
    return simplex[:place] + simplex[place + 1:]


def sides_of(simplex):
    """The faces of a simplex with all its vertices but one; a vertex has none."""
    return [without_place(simplex, place) for place in range(len(simplex)) if len(simplex) > 1]


def is_disjoint(one, other):
    return not any([vertex in other for vertex in one])


def together(one, other):
    """The ascending tuple of the vertices of two simplices without a common one."""
    return tuple(sorted(one + other))


def check_degree(degree, least):
    if not is_integer(degree) or not least <= degree < MOST_VERTICES:
        raise BadDegree(f"a degree from {least} to {MOST_VERTICES - 1} is needed")
