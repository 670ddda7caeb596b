"""Numbers of holes by a prime, of complexes and of what is left of them without a part."""

from shapeholes.chains import border_of, cells_of
from shapeholes.complexes import simplices_of
from shapeholes.fields import inverse_of
from shapeholes.simplices import MOST_VERTICES


def reduced_numbers(shape, prime):
    """The numbers of the reduced holes of a complex, by degree."""
    return hole_numbers([()] + simplices_of(shape), prime)


def hole_numbers(cells, prime):
    """The numbers of holes of a list of simplices, by degree; faces that it lacks count as nothing.

    The empty simplex may be in the list. A simplex between two of the list must be in it."""
    inside = {cell: True for cell in cells}
    numbers = {degree: 0 for degree in range(-1, MOST_VERTICES)}
    lasts = {}
    for cell in sorted(cells, key=lambda cell: -len(cell)):
        numbers[len(cell) - 1] += 1
        # The last simplex of a boundary has a boundary that others of its degree make up.
        if cell in lasts:
            continue
        border = vector_of([(face, sign) for face, sign in border_of(cell) if face in inside], prime)
        if put_in(border, lasts, prime) is not None:
            numbers[len(cell) - 1] -= 1
            numbers[len(cell) - 2] -= 1
    return numbers


def has_holes(cells, prime):
    """Whether a list of all simplices of a complex, the empty one left out, has holes of any degree."""
    return any(list(hole_numbers([()] + cells, prime).values()))


def vector_of(pairs, prime):
    """A dict of numbers other than 0 by the prime, of pairs of something and its number."""
    return {key: number % prime for key, number in pairs if number % prime}


def put_in(vector, lasts, prime):
    """Keep what others leave of a vector under its last simplex, which is the answer; None if it is nothing."""
    reduce_by(vector, lasts, prime)
    if not vector:
        return None
    last = max(list(vector))
    lasts[last] = vector
    return last


def reduce_by(border, lasts, prime):
    """Change a boundary by others, each kept under its last simplex, until none has the same last one."""
    while border:
        last = max(list(border))
        if last not in lasts:
            return
        other = lasts[last]
        add_by_prime(border, other, -border[last] * inverse_of(other[last], prime), prime)


def coordinates_of(vector, lasts, prime):
    """How often each of the kept vectors stands in a sum of them, by their last simplices."""
    rest = {key: vector[key] for key in vector}
    found = {}
    while rest:
        last = max(list(rest))
        other = lasts[last]
        found[last] = rest[last] * inverse_of(other[last], prime) % prime
        add_by_prime(rest, other, -found[last], prime)
    return found


def cycles_of(shape, degree, prime):
    """Independent cycles of a degree that make up all of them by the prime."""
    lasts = {}
    for cell in cells_of(shape, degree):
        # A simplex stands ahead of all faces here: sums that end with one have no boundary left.
        marked = [((1, face), sign) for face, sign in border_of(cell)] + [((0, cell), 1)]
        put_in(vector_of(marked, prime), lasts, prime)
    return [{simplex: lasts[last][(0, simplex)] for _, simplex in lasts[last]} for last in lasts if last[0] == 0]


def add_by_prime(target, source, factor, prime):
    """Change a dict of numbers other than 0 by the multiple of another one, by a prime."""
    for face in source:
        number = (target.get(face, 0) + factor * source[face]) % prime
        if number:
            target[face] = number
        else:
            del target[face]
