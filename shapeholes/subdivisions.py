"""Complexes cut up at the middles of their simplices."""

from shapeholes.complexes import complex_of, simplices_of
from shapeholes.errors import TooMany
from shapeholes.simplices import LAST_VERTEX, sides_of


def subdivided(shape):
    simplices = simplices_of(shape)
    if len(simplices) > LAST_VERTEX + 1:
        raise TooMany(LAST_VERTEX + 1)
    places = {simplices[k]: k for k in range(len(simplices))}
    # The order of simplices_of goes by length first, so that the places of a flag ascend.
    return complex_of([tuple([places[face] for face in flag])
                       for facet in shape.facets for flag in flags_of(facet)])


def flags_of(simplex):
    """The lists of a vertex, an edge around it and so on, up to the simplex."""
    if len(simplex) == 1:
        return [[simplex]]
    return [flag + [simplex] for side in sides_of(simplex) for flag in flags_of(side)]
