"""Parts of complexes, and complexes made of two."""

from shapeholes.complexes import check_complex, complex_of, simplices_of, vertices_of
from shapeholes.errors import BadJoin, BadNames, BadSimplex, BadVertex, BadVertices
from shapeholes.forests import tied
from shapeholes.simplices import (
    MOST_VERTICES, check_degree, is_ascending, is_disjoint, is_vertex, together)


def check_simplex(shape, simplex):
    if simplex not in shape:
        raise BadSimplex("a simplex of the complex is needed")


def link(shape, simplex):
    check_complex(shape)
    check_simplex(shape, simplex)
    return complex_of([other for other in simplices_of(shape)
                       if is_disjoint(other, simplex) and together(other, simplex) in shape])


def star(shape, simplex):
    check_complex(shape)
    check_simplex(shape, simplex)
    return complex_of([other for other in simplices_of(shape)
                       if all([vertex in other for vertex in simplex])])


def deletion(shape, vertex):
    check_complex(shape)
    if (vertex,) not in shape:
        raise BadVertex("a vertex of the complex is needed")
    return complex_of([simplex for simplex in simplices_of(shape) if vertex not in simplex])


def skeleton(shape, degree):
    check_complex(shape)
    check_degree(degree, -1)
    return complex_of([simplex for simplex in simplices_of(shape) if len(simplex) <= degree + 1])


def induced(shape, vertices):
    check_complex(shape)
    if not is_ascending(vertices):
        raise BadVertices("an ascending tuple of unlike vertices is needed")
    return complex_of([simplex for simplex in simplices_of(shape)
                       if all([vertex in vertices for vertex in simplex])])


def union(one, other):
    check_complex(one)
    check_complex(other)
    return complex_of(one.facets + other.facets)


def meet(one, other):
    check_complex(one)
    check_complex(other)
    return complex_of([simplex for simplex in simplices_of(one) if simplex in other])


def join(one, other):
    check_complex(one)
    check_complex(other)
    check_join(one, other)
    # Facets alone make the join, but each is joined with the empty simplex if there is no other.
    return complex_of([together(facet, more)
                       for facet in one.facets or ((),) for more in other.facets or ((),)])


def check_join(one, other):
    if not is_disjoint(vertices_of(one), vertices_of(other)):
        raise BadJoin("the complexes have a common vertex")
    if greatest_length(one) + greatest_length(other) > MOST_VERTICES:
        raise BadJoin(f"a simplex would have more than {MOST_VERTICES} vertices")


def greatest_length(shape):
    return max([len(facet) for facet in shape.facets], default=0)


def renamed(shape, names):
    check_complex(shape)
    check_names(shape, names)
    fresh = {old: new for old, new in names}
    return complex_of([tuple(sorted([fresh[vertex] for vertex in facet])) for facet in shape.facets])


def check_names(shape, names):
    vertices = vertices_of(shape)
    if not isinstance(names, tuple) or len(names) != len(vertices):
        raise BadNames(None)
    used = {}
    for k in range(len(names)):
        if not is_pair_of(names[k], vertices[k]) or names[k][1] in used:
            raise BadNames(k)
        used[names[k][1]] = True


def is_pair_of(value, vertex):
    """Whether a value is a pair of this vertex and any vertex."""
    if not isinstance(value, tuple) or len(value) != 2:
        return False
    return is_vertex(value[0]) and value[0] == vertex and is_vertex(value[1])


def components(shape):
    check_complex(shape)
    edges = [simplex for simplex in simplices_of(shape) if len(simplex) == 2]
    firsts, _ = tied(vertices_of(shape), edges)
    return [tuple([vertex for vertex in firsts if firsts[vertex] == low])
            for low in firsts if firsts[low] == low]


def is_part(one, other):
    """Whether all simplices of one complex are simplices of the other one."""
    return all([facet in other for facet in one.facets])
