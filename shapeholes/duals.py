"""Complexes on a number of points, and what they lack."""

from shapeholes.complexes import Complex, check_complex, counts_of, simplices_of, vertices_of
from shapeholes.errors import BadMany, FullComplex
from shapeholes.fields import check_prime
from shapeholes.parts import link
from shapeholes.reductions import hole_numbers, reduced_numbers
from shapeholes.simplices import MOST_VERTICES, faces_of, is_integer, sides_of


def check_many(shape, many):
    if not is_integer(many) or not 1 <= many <= MOST_VERTICES:
        raise BadMany(f"a number of points from 1 to {MOST_VERTICES} is needed")
    if any([vertex >= many for vertex in vertices_of(shape)]):
        raise BadMany("the complex has a vertex that is none of the points")


def sets_of_points(many):
    """The nonempty sets of the points below a number, by length, then ascending."""
    return sorted(faces_of(tuple(range(many))), key=lambda points: (len(points), points))


def dual(shape, many):
    check_complex(shape)
    check_many(shape, many)
    if tuple(range(many)) in shape:
        raise FullComplex("all points are a simplex")
    return Complex(tuple([rest_of(points, many) for points in sets_of_points(many)
                          if points not in shape and len(points) < many]))


def rest_of(points, many):
    """The points below a number that are not in a set."""
    return tuple([point for point in range(many) if point not in points])


def missing(shape, many):
    check_complex(shape)
    check_many(shape, many)
    return tuple([points for points in sets_of_points(many)
                  if points not in shape and all([side in shape for side in sides_of(points)])])


def is_clean(shape, prime):
    check_complex(shape)
    check_prime(prime)
    # The link of a facet is the empty complex, which has no degree below that of its empty simplex.
    return all([has_holes_on_top_only(part, prime)
                for part in [shape] + [link(shape, simplex) for simplex in simplices_of(shape)]])


def has_holes_on_top_only(shape, prime):
    numbers = reduced_numbers(shape, prime)
    return not any([numbers[degree] for degree in range(-1, len(counts_of(shape)) - 1)])


def degrees_of_parts(shape, many, prime):
    check_complex(shape)
    check_many(shape, many)
    check_prime(prime)
    found = {}
    for points in sets_of_points(many):
        part = [simplex for simplex in simplices_of(shape) if all([vertex in points for vertex in simplex])]
        numbers = hole_numbers([()] + part, prime)
        for degree in numbers:
            if numbers[degree]:
                found[degree] = True
    return tuple(sorted(list(found)))
