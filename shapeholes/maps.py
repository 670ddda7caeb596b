"""Maps from one complex to another one, and what they do to chains and holes."""

from shapeholes.chains import border_of, cells_of, chain_of, check_chain_of
from shapeholes.complexes import check_complex, complex_of, simplices_of, vertices_of
from shapeholes.errors import BadMap, NotOriented
from shapeholes.fields import check_prime
from shapeholes.parts import is_pair_of
from shapeholes.reductions import coordinates_of, cycles_of, put_in, vector_of
from shapeholes.shellings import is_pure
from shapeholes.simplices import check_degree
from shapeholes.walks import Walk


def is_map(one, other, names):
    check_complex(one)
    check_complex(other)
    vertices = vertices_of(one)
    if not isinstance(names, tuple) or len(names) != len(vertices):
        return False
    if not all([is_pair_of(names[k], vertices[k]) for k in range(len(names))]):
        return False
    images = images_by(names)
    return all([image_simplex(images, facet) in other for facet in one.facets])


def check_map(one, other, names):
    if not is_map(one, other, names):
        raise BadMap("a map from one complex to the other is needed")


def images_by(names):
    return {vertex: image for vertex, image in names}


def image_simplex(images, simplex):
    return tuple(sorted(set([images[vertex] for vertex in simplex])))


def image_sign(images, simplex):
    """The sign of the permutation that sorts the images, 0 if they are not unlike."""
    row = [images[vertex] for vertex in simplex]
    sign = 1
    for place in range(len(row)):
        for later in row[place + 1:]:
            if later <= row[place]:
                sign = -sign if later < row[place] else 0
    return sign


def moved_numbers(images, numbers):
    """The image of a chain, both of them as dicts from simplices to numbers; some may be 0."""
    totals = {}
    for simplex in numbers:
        image = image_simplex(images, simplex)
        sign = image_sign(images, simplex)
        # An image with fewer vertices has another degree, and is nothing.
        if sign:
            totals[image] = totals.get(image, 0) + sign * numbers[simplex]
    return totals


def image_of(one, other, names):
    check_map(one, other, names)
    images = images_by(names)
    return complex_of([image_simplex(images, facet) for facet in one.facets])


def moved_chain(one, other, names, chain):
    check_map(one, other, names)
    check_chain_of(one, chain)
    return chain_of(moved_numbers(images_by(names), {simplex: number for simplex, number in chain}))


def boundaries_by(shape, degree, prime):
    """The boundaries of a degree, as vectors that are independent by the prime, by their last simplices."""
    lasts = {}
    for cell in cells_of(shape, degree + 1):
        put_in(vector_of(border_of(cell), prime), lasts, prime)
    return lasts


def moved_vector(images, vector, prime):
    return vector_of(list(moved_numbers(images, vector).items()), prime)


def map_rank(one, other, names, degree, prime):
    check_map(one, other, names)
    check_degree(degree, -1)
    check_prime(prime)
    lasts = boundaries_by(other, degree, prime)
    images = images_by(names)
    found = [put_in(moved_vector(images, cycle, prime), lasts, prime)
             for cycle in cycles_of(one, degree, prime)]
    return len([last for last in found if last is not None])


def hole_trace(shape, names, degree, prime):
    check_map(shape, shape, names)
    check_degree(degree, -1)
    check_prime(prime)
    lasts = boundaries_by(shape, degree, prime)
    # The cycles that boundaries do not make up stand for the holes.
    found = [put_in(cycle, lasts, prime) for cycle in cycles_of(shape, degree, prime)]
    images = images_by(names)
    trace = 0
    for last in found:
        if last is not None:
            moved = moved_vector(images, lasts[last], prime)
            trace += coordinates_of(moved, lasts, prime).get(last, 0)
    return trace % prime


def lefschetz(shape, names):
    check_map(shape, shape, names)
    images = images_by(names)
    return sum([image_sign(images, simplex) * degree_sign(simplex) for simplex in fixed_by(shape, images)])


def degree_sign(simplex):
    return 1 if len(simplex) % 2 == 1 else -1


def fixed_by(shape, images):
    return [simplex for simplex in simplices_of(shape) if image_simplex(images, simplex) == simplex]


def fixed_simplices(shape, names):
    check_map(shape, shape, names)
    return fixed_by(shape, images_by(names))


def are_near(one, other, names, more):
    check_map(one, other, names)
    check_map(one, other, more)
    first, second = images_by(names), images_by(more)
    return all([tuple(sorted(set([images[vertex] for images in (first, second) for vertex in facet]))) in other
                for facet in one.facets])


def fundamental(shape):
    check_complex(shape)
    if not shape.facets or not is_pure(shape):
        return None
    walk = Walk(shape)
    if not walk.is_closed() or len(walk.signs) < len(shape.facets) or walk.clash is not None:
        return None
    return tuple([(facet, walk.signs[facet]) for facet in shape.facets])


def check_oriented(shape):
    if fundamental(shape) is None:
        raise NotOriented("the complex has no fundamental chain")


def degree_of(one, other, names):
    check_oriented(one)
    check_oriented(other)
    if len(one.facets[0]) != len(other.facets[0]):
        raise NotOriented("the degrees of the fundamental chains are unlike")
    check_map(one, other, names)
    moved = moved_numbers(images_by(names), {facet: sign for facet, sign in fundamental(one)})
    # The fundamental chain of the other complex has the number 1 at its first facet.
    return moved.get(other.facets[0], 0)
