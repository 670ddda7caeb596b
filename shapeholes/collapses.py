"""Complexes made smaller without a change of their holes."""

from shapeholes.complexes import check_complex, complex_of, simplices_of, vertices_of
from shapeholes.errors import BadPairs
from shapeholes.parts import deletion
from shapeholes.simplices import is_simplex, sides_of


class Remains:
    """What is left of a complex while free pairs are taken away.

    Each simplex has the list of those with one vertex more of which it is a face. If there is just
    one, that is all of which it is a face: one with two vertices more would bring a second one."""

    def __init__(self, shape):
        self.above = {simplex: [] for simplex in simplices_of(shape)}
        for simplex in simplices_of(shape):
            for side in sides_of(simplex):
                self.above[side].append(simplex)

    def free_ones(self):
        return sorted([(simplex, self.above[simplex][0])
                       for simplex in self.above if len(self.above[simplex]) == 1])

    def is_free_one(self, value):
        if not isinstance(value, tuple) or len(value) != 2:
            return False
        if not is_simplex(value[0]) or not is_simplex(value[1]):
            return False
        return self.above.get(value[0], []) == [value[1]]

    def take_away(self, pair):
        for simplex in (pair[1], pair[0]):
            for side in sides_of(simplex):
                self.above[side].remove(simplex)
            del self.above[simplex]


def free_pairs(shape):
    check_complex(shape)
    return Remains(shape).free_ones()


def collapsed(shape, steps):
    check_complex(shape)
    remains = Remains(shape)
    if not isinstance(steps, tuple) or len(steps) > len(remains.above):
        raise BadPairs(None)
    for k in range(len(steps)):
        if not remains.is_free_one(steps[k]):
            raise BadPairs(k)
        remains.take_away(steps[k])
    return complex_of(list(remains.above))


def collapse_fully(shape):
    check_complex(shape)
    remains = Remains(shape)
    taken = []
    while True:
        free = remains.free_ones()
        if not free:
            return tuple(taken)
        remains.take_away(free[0])
        taken.append(free[0])


def left_by(shape):
    return collapsed(shape, collapse_fully(shape))


def dominated(shape):
    check_complex(shape)
    return [(vertex, other) for vertex in vertices_of(shape)
            for other in common_to([facet for facet in shape.facets if vertex in facet]) if other != vertex]


def apexes(shape):
    check_complex(shape)
    return common_to(shape.facets)


def common_to(facets):
    """The ascending tuple of the vertices that all of some facets have, () without any facet."""
    if not facets:
        return ()
    return tuple([vertex for vertex in facets[0] if all([vertex in facet for facet in facets])])


def core(shape):
    check_complex(shape)
    left = shape
    found = dominated(left)
    while found:
        left = deletion(left, found[0][0])
        found = dominated(left)
    return left
