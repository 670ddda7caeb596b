"""Complexes of simplices and what can be counted in them."""

from shapeholes.errors import BadSimplices, NotComplex, TooMany
from shapeholes.simplices import faces_of, is_simplex, without_place

MOST_SIMPLICES = 400


class Complex:
    """All faces of some simplices. A complex does not change once it is made."""

    def __init__(self, simplices):
        check_simplices(simplices)
        faces = closure_of(simplices)
        # The keys of this dict stand in the order of simplices_of.
        self._places = {faces[k]: k for k in range(len(faces))}
        self._facets = facets_among(faces)

    @property
    def facets(self):
        return self._facets

    def __eq__(self, other):
        return isinstance(other, Complex) and self._facets == other._facets

    def __contains__(self, simplex):
        # A tuple with True in it would be found as one with 1, so its kind is asked first.
        return is_simplex(simplex) and simplex in self._places


def check_simplices(simplices):
    if not isinstance(simplices, tuple) or len(simplices) > MOST_SIMPLICES:
        raise BadSimplices(None)
    for k in range(len(simplices)):
        if not is_simplex(simplices[k]):
            raise BadSimplices(k)


def closure_of(simplices):
    """The list of all faces of simplices, by length, then ascending."""
    faces = {}
    for simplex in simplices:
        for face in faces_of(simplex):
            faces[face] = True
        if len(faces) > MOST_SIMPLICES:
            raise TooMany(MOST_SIMPLICES)
    return sorted(list(faces), key=lambda face: (len(face), face))


def facets_among(faces):
    """The ascending tuple of those that are no face of another one, of a closed list."""
    inner = {}
    for face in faces:
        for place in range(len(face)):
            inner[without_place(face, place)] = True
    return tuple(sorted([face for face in faces if face not in inner]))


def complex_of(simplices):
    """The complex of simplices of which there may be more than Complex takes."""
    return Complex(tuple(closure_of(simplices)))


def check_complex(shape):
    if not isinstance(shape, Complex):
        raise NotComplex("a complex is needed")


def simplices_of(shape):
    check_complex(shape)
    return list(shape._places)


def vertices_of(shape):
    return tuple([simplex[0] for simplex in simplices_of(shape) if len(simplex) == 1])


def counts_of(shape):
    lengths = [len(simplex) for simplex in simplices_of(shape)]
    return tuple([lengths.count(length) for length in range(1, max(lengths, default=0) + 1)])


def euler_of(shape):
    """The reduced Euler number: the empty simplex counts as one of odd degree."""
    counts = counts_of(shape)
    return sum(counts[::2]) - sum(counts[1::2]) - 1
