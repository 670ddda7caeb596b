"""Numbers of holes by a prime, of complexes and of what is left of them without a part."""

from shapeholes.chains import border_of
from shapeholes.complexes import simplices_of
from shapeholes.fields import inverse_of
from shapeholes.simplices import MOST_VERTICES


def reduced_numbers(shape, prime):
    """The numbers of the reduced holes of a complex, by degree."""
    return hole_numbers([()] + simplices_of(shape), prime)


def hole_numbers(cells, prime):
    """The numbers of holes of a list of simplices, by degree; faces that it lacks count as nothing.

    The empty simplex may be in the list. A simplex between two of the list must be in it."""
    inside = {cell: True for cell in cells}
    numbers = {degree: 0 for degree in range(-1, MOST_VERTICES)}
    lasts = {}
    for cell in sorted(cells, key=lambda cell: -len(cell)):
        numbers[len(cell) - 1] += 1
        # The last simplex of a boundary has a boundary that others of its degree make up.
        if cell in lasts:
            continue
        border = {face: sign % prime for face, sign in border_of(cell) if face in inside}
        reduce_by(border, lasts, prime)
        if border:
            lasts[max(list(border))] = border
            numbers[len(cell) - 1] -= 1
            numbers[len(cell) - 2] -= 1
    return numbers


def reduce_by(border, lasts, prime):
    """Change a boundary by others, each kept under its last simplex, until none has the same last one."""
    while border:
        last = max(list(border))
        if last not in lasts:
            return
        other = lasts[last]
        add_by_prime(border, other, -border[last] * inverse_of(other[last], prime), prime)


def add_by_prime(target, source, factor, prime):
    """Change a dict of numbers other than 0 by the multiple of another one, by a prime."""
    for face in source:
        number = (target.get(face, 0) + factor * source[face]) % prime
        if number:
            target[face] = number
        else:
            del target[face]
