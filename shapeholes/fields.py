"""Rows of numbers that are read by a prime."""

from shapeholes.errors import BadPrime
from shapeholes.matrices import check_matrix

PRIMES = (2, 3, 5, 7)


def check_prime(prime):
    if prime not in PRIMES:
        raise BadPrime("one of the primes 2, 3, 5 and 7 is needed")


def rank_mod(rows, prime):
    check_matrix(rows)
    check_prime(prime)
    return len(basis_of(rows, prime))


def basis_of(rows, prime):
    """Pairs (place, row) whose rows have the same sums of multiples as the given ones.

    Each row of the pairs is 1 at its place, and 0 at the places of the pairs ahead of it."""
    basis = []
    for row in rows:
        rest = remainder_of(row, basis, prime)
        place = first_place(rest)
        if place is not None:
            factor = inverse_of(rest[place], prime)
            basis.append((place, [factor * number % prime for number in rest]))
    return basis


def remainder_of(row, basis, prime):
    """A row less multiples of the rows of a basis, so that it is 0 at all their places."""
    rest = [number % prime for number in row]
    for place, other in basis:
        factor = rest[place]
        if factor:
            rest = [(mine - factor * its) % prime for mine, its in zip(rest, other)]
    return rest


def first_place(row):
    """The first index with a number other than 0, None if there is none."""
    for k in range(len(row)):
        if row[k]:
            return k
    return None


def inverse_of(number, prime):
    return [k for k in range(1, prime) if k * number % prime == 1][0]


def row_across(basis, place, width, prime):
    """Numbers whose products with each row of a basis add up to 0 by the prime, with 1 at a place.

    The place is none of the basis; the only other numbers stand at the places of the basis."""
    answer = [0] * width
    answer[place] = 1
    # From the last row on: each row is 0 where the answer is not known yet, but at its own place.
    for at, row in reversed(basis):
        answer[at] = -sum([mine * its for mine, its in zip(row, answer)]) % prime
    return answer
