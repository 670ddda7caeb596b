"""The reduced holes of complexes, and cycles that are boundaries or are not."""

from shapeholes.chains import border_matrix, boundary, cells_of, check_chain_of
from shapeholes.complexes import check_complex
from shapeholes.errors import NotCycle
from shapeholes.fields import basis_of, check_prime, first_place, remainder_of, row_across
from shapeholes.matrices import columns_of
from shapeholes.reductions import reduced_numbers
from shapeholes.simplices import check_degree
from shapeholes.smith import factors_of, smith, solution_of


def holes(shape, degree):
    check_complex(shape)
    check_degree(degree, -1)
    below = border_factors(shape, degree)
    above = border_factors(shape, degree + 1)
    rank = len(cells_of(shape, degree)) - len(below) - len(above)
    return rank, tuple([factor for factor in above if factor > 1])


def border_factors(shape, degree):
    return factors_of(smith(border_matrix(shape, degree))[1])


def holes_mod(shape, degree, prime):
    check_complex(shape)
    check_degree(degree, -1)
    check_prime(prime)
    return reduced_numbers(shape, prime)[degree]


def check_cycle(shape, chain):
    check_complex(shape)
    check_chain_of(shape, chain)
    if boundary(chain):
        raise NotCycle("the boundary of the chain is not nothing")


def filling(shape, chain):
    check_cycle(shape, chain)
    if not chain:
        return ()
    degree = len(chain[0][0]) - 1
    numbers = solution_of(border_matrix(shape, degree + 1), numbers_at(chain, cells_of(shape, degree)))
    return None if numbers is None else pairs_of(cells_of(shape, degree + 1), numbers)


def reading(shape, chain, prime):
    check_cycle(shape, chain)
    check_prime(prime)
    if not chain:
        return None
    degree = len(chain[0][0]) - 1
    cells = cells_of(shape, degree)
    basis = basis_of(columns_of(border_matrix(shape, degree + 1)), prime)
    place = first_place(remainder_of(numbers_at(chain, cells), basis, prime))
    if place is None:
        return None
    return pairs_of(cells, row_across(basis, place, len(cells), prime))


def numbers_at(chain, cells):
    """The numbers of a chain at all simplices of its degree, 0 where it has none."""
    numbers = {simplex: number for simplex, number in chain}
    return [numbers.get(simplex, 0) for simplex in cells]


def pairs_of(cells, numbers):
    return tuple([(simplex, number) for simplex, number in zip(cells, numbers) if number])
