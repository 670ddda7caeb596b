"""Chains of simplices and their boundaries."""

from shapeholes.complexes import check_complex, simplices_of
from shapeholes.errors import BadChain
from shapeholes.simplices import check_degree, is_integer, is_simplex, without_place

MOST_TERMS = 400


def check_chain(chain):
    if not isinstance(chain, tuple) or len(chain) > MOST_TERMS:
        raise BadChain(None)
    for k in range(len(chain)):
        if not is_term(chain[k]) or k > 0 and not is_behind(chain[k - 1][0], chain[k][0]):
            raise BadChain(k)


def check_chain_of(shape, chain):
    check_chain(chain)
    for k in range(len(chain)):
        # The empty simplex belongs to each complex, though it is none of its simplices.
        if chain[k][0] != () and chain[k][0] not in shape:
            raise BadChain(k)


def is_term(value):
    """Whether a value is a pair of a simplex, perhaps the empty one, and an integer but 0."""
    if not isinstance(value, tuple) or len(value) != 2:
        return False
    return (value[0] == () or is_simplex(value[0])) and is_integer(value[1]) and value[1] != 0


def is_behind(one, other):
    return len(one) == len(other) and one < other


def chain_of(totals):
    """The chain of a dict from simplices of one degree to numbers, perhaps 0."""
    return tuple([(simplex, totals[simplex]) for simplex in sorted(list(totals)) if totals[simplex]])


def boundary(chain):
    check_chain(chain)
    totals = {}
    for simplex, number in chain:
        for face, sign in border_of(simplex):
            totals[face] = totals.get(face, 0) + sign * number
    return chain_of(totals)


def border_of(simplex):
    """The pairs of a face less one vertex and its sign in the boundary of a simplex."""
    return [(without_place(simplex, place), 1 - place % 2 * 2) for place in range(len(simplex))]


def boundary_rows(shape, degree):
    check_complex(shape)
    check_degree(degree, 0)
    return border_matrix(shape, degree)


def cells_of(shape, degree):
    """The ascending list of the simplices of a degree, of the empty simplex for -1."""
    if degree == -1:
        return [()]
    return [simplex for simplex in simplices_of(shape) if len(simplex) == degree + 1]


def border_matrix(shape, degree):
    """The matrix of boundaries of any degree; of degree -1 it has no rows."""
    columns = cells_of(shape, degree)
    faces = cells_of(shape, degree - 1)
    places = {faces[k]: k for k in range(len(faces))}
    rows = [[0] * len(columns) for _ in faces]
    for at, simplex in enumerate(columns):
        for face, sign in border_of(simplex):
            rows[places[face]][at] = sign
    return tuple([tuple(row) for row in rows])
