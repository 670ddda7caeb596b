"""Numbers of simplices: what they tell, and which ones there can be."""

from math import comb

from shapeholes.complexes import MOST_SIMPLICES, Complex, counts_of, euler_of, simplices_of
from shapeholes.errors import BadCounts, BadNumber
from shapeholes.parts import link
from shapeholes.shellings import is_pure
from shapeholes.simplices import LAST_VERTEX, MOST_VERTICES, is_integer

MOST_SETS = 10000
GREATEST_COUNT = 400


def h_numbers(shape):
    counts = (1,) + counts_of(shape)
    last = len(counts) - 1
    return tuple([sum([sign_of(k - i) * comb(last - i, k - i) * counts[i] for i in range(k + 1)])
                  for k in range(last + 1)])


def sign_of(number):
    """1 for even numbers, -1 for odd ones."""
    return 1 - number % 2 * 2


def is_even_all(shape):
    if not is_pure(shape):
        return False
    links = [link(shape, simplex) for simplex in simplices_of(shape)]
    return all([has_euler_of_sphere(part) for part in [shape] + links])


def has_euler_of_sphere(shape):
    """Whether the reduced Euler number is that of a sphere of the degree of the shape, -1 without simplices."""
    return euler_of(shape) == sign_of(len(counts_of(shape)) - 1)


def check_number(number, size):
    if not is_integer(number) or not 0 <= number <= MOST_SETS:
        raise BadNumber(f"a number from 0 to {MOST_SETS} is needed")
    if not is_integer(size) or not 1 <= size <= MOST_VERTICES:
        raise BadNumber(f"a size from 1 to {MOST_VERTICES} is needed")


def cascade(number, size):
    check_number(number, size)
    steps = []
    left = number
    for k in range(size, 0, -1):
        if left:
            points = greatest_points(left, k)
            steps.append((points, k))
            left -= comb(points, k)
    return tuple(steps)


def greatest_points(number, size):
    """The greatest number of points that have at most so many sets of a size, the number being above 0."""
    points = size
    while comb(points + 1, size) <= number:
        points += 1
    return points


def least_shadow(number, size):
    return sum([comb(points, k - 1) for points, k in cascade(number, size)])


def check_counts(counts):
    if not isinstance(counts, tuple) or len(counts) > MOST_VERTICES:
        raise BadCounts(None)
    for k in range(len(counts)):
        if not is_integer(counts[k]) or not 1 <= counts[k] <= GREATEST_COUNT:
            raise BadCounts(k)


def are_counts(counts):
    check_counts(counts)
    return all([counts[k - 1] >= least_shadow(counts[k], k + 1) for k in range(1, len(counts))])


def compressed(counts):
    if not are_counts(counts) or sum(counts) > MOST_SIMPLICES:
        return None
    if counts and counts[0] > LAST_VERTEX + 1:
        return None
    return Complex(tuple([simplex for k in range(len(counts)) for simplex in first_sets(counts[k], k + 1)]))


def first_sets(number, size):
    """So many sets of a size, those with the least last points; their faces are such ones too."""
    points = size
    while comb(points, size) < number:
        points += 1
    return sets_below(points, size)[:number]


def sets_below(points, size):
    """All sets of a size of the first points, ordered by their last points, then by those before, and so on."""
    if size == 0:
        return [()]
    return [part + (last,) for last in range(points) for part in sets_below(last, size - 1)]
