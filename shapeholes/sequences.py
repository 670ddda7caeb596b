"""Holes of pairs of complexes, and the maps between holes in exact rows."""

from shapeholes.complexes import check_complex, simplices_of
from shapeholes.errors import BadPart
from shapeholes.fields import check_prime
from shapeholes.parts import is_part, meet
from shapeholes.reductions import hole_numbers, reduced_numbers
from shapeholes.simplices import MOST_VERTICES, check_degree


def check_pair(shape, part, degree, prime):
    check_complex(shape)
    check_complex(part)
    if not is_part(part, shape):
        raise BadPart("a complex of some simplices of the complex is needed")
    check_degree(degree, 0)
    check_prime(prime)


def pair_numbers(shape, part, prime):
    """The numbers of holes of a pair, by degree; the empty simplex is one of the part."""
    return hole_numbers([simplex for simplex in simplices_of(shape) if simplex not in part], prime)


def pair_holes(shape, part, degree, prime):
    check_pair(shape, part, degree, prime)
    return pair_numbers(shape, part, prime)[degree]


def pair_ranks(shape, part, degree, prime):
    check_pair(shape, part, degree, prime)
    return exact_ranks(reduced_numbers(part, prime), reduced_numbers(shape, prime),
                       pair_numbers(shape, part, prime), degree)


def union_ranks(one, other, degree, prime):
    check_complex(one)
    check_complex(other)
    check_degree(degree, 0)
    check_prime(prime)
    first, second = reduced_numbers(one, prime), reduced_numbers(other, prime)
    both = {at: first[at] + second[at] for at in first}
    return exact_ranks(reduced_numbers(meet(one, other), prime), both,
                       hole_numbers(cells_of_either(one, other), prime), degree)


def cells_of_either(one, other):
    """The simplices of two complexes and the empty one; their union may have too many for a complex."""
    return [()] + simplices_of(one) + [simplex for simplex in simplices_of(other) if simplex not in one]


def exact_ranks(first, second, third, degree):
    """The ranks of the maps of an exact row from the first holes to the second, the third, and the first below.

    In an exact row the ranks of the maps to some holes and from them add up to their number; and
    there are no holes above the last degree. So the ranks follow one from another, from the top."""
    ranks = (0, 0, 0)
    for at in range(MOST_VERTICES - 1, degree - 1, -1):
        to_second = first[at] - ranks[2]
        to_third = second[at] - to_second
        ranks = (to_second, to_third, third[at] - to_third)
    return ranks
