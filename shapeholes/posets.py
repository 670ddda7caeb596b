"""Partial orders of a few points, the complexes of their chains, and monotone maps."""

from shapeholes.complexes import Complex
from shapeholes.errors import BadImages, BadInterval, BadPoint, BadRelation, NotPoset
from shapeholes.fields import check_prime
from shapeholes.reductions import has_holes
from shapeholes.simplices import is_integer

MOST_POINTS = 8
MOST_PAIRS = 64


class Poset:
    """The partial order to which pairs of points lead. It does not change once it is made."""

    def __init__(self, many, pairs):
        if not is_integer(many) or not 0 <= many <= MOST_POINTS:
            raise BadPoint(f"a number of points from 0 to {MOST_POINTS} is needed")
        check_relation(many, pairs)
        self._points = tuple(range(many))
        self._pairs = all_pairs(many, pairs)
        if any([low == high for low, high in self._pairs]):
            raise BadRelation(None)

    @property
    def points(self):
        return self._points

    @property
    def pairs(self):
        return self._pairs

    def __eq__(self, other):
        return isinstance(other, Poset) and self._points == other._points and self._pairs == other._pairs


def is_point(value, many):
    return is_integer(value) and 0 <= value < many


def check_relation(many, pairs):
    if not isinstance(pairs, tuple) or len(pairs) > MOST_PAIRS:
        raise BadRelation(None)
    for k in range(len(pairs)):
        if not is_pair_of_points(pairs[k], many) or pairs[k][0] == pairs[k][1]:
            raise BadRelation(k)


def is_pair_of_points(value, many):
    return isinstance(value, tuple) and len(value) == 2 and all([is_point(item, many) for item in value])


def all_pairs(many, pairs):
    """The ascending tuple of the pairs of a point and one to which pairs lead from it."""
    found = {pair: True for pair in pairs}
    # With the point between in the outermost loop, one round finds the ways through all points.
    for middle in range(many):
        for low in range(many):
            for high in range(many):
                if (low, middle) in found and (middle, high) in found:
                    found[(low, high)] = True
    return tuple(sorted(list(found)))


def check_poset(poset):
    if not isinstance(poset, Poset):
        raise NotPoset("a partial order is needed")


def check_point(poset, point):
    if not is_point(point, len(poset.points)):
        raise BadPoint("a point of the partial order is needed")


def is_less(poset, low, high):
    return (low, high) in poset.pairs


def points_between(poset, low, high):
    return [point for point in poset.points if is_less(poset, low, point) and is_less(poset, point, high)]


def chains_among(poset, points):
    """The nonempty sets of some points of which any two are in order, as ascending tuples."""
    chains = [()]
    for point in points:
        chains = chains + [chain + (point,) for chain in chains if is_in_order_with_all(poset, point, chain)]
    return chains[1:]


def is_in_order_with_all(poset, point, chain):
    return all([is_less(poset, point, other) or is_less(poset, other, point) for other in chain])


def chains_shape(poset):
    check_poset(poset)
    return Complex(tuple(chains_among(poset, poset.points)))


def interval_shape(poset, low, high):
    check_poset(poset)
    check_point(poset, low)
    check_point(poset, high)
    if not is_less(poset, low, high):
        raise BadInterval("the first point is not less than the second one")
    return Complex(tuple(chains_among(poset, points_between(poset, low, high))))


def moebius(poset, low, high):
    check_poset(poset)
    check_point(poset, low)
    check_point(poset, high)
    if low == high:
        return 1
    if not is_less(poset, low, high):
        return 0
    return -sum([moebius(poset, low, point) for point in [low] + points_between(poset, low, high)])


def is_monotone(one, other, images):
    check_poset(one)
    check_poset(other)
    if not isinstance(images, tuple) or len(images) != len(one.points):
        return False
    if not all([is_point(image, len(other.points)) for image in images]):
        return False
    return all([is_at_most(other, images[low], images[high]) for low, high in one.pairs])


def is_at_most(poset, low, high):
    return low == high or is_less(poset, low, high)


def are_fibers_clean(one, other, images, prime):
    if not is_monotone(one, other, images):
        raise BadImages("a monotone map of the points is needed")
    check_prime(prime)
    fibers = [[point for point in one.points if is_at_most(other, images[point], top)] for top in other.points]
    return not any([has_holes(chains_among(one, fiber), prime) for fiber in fibers])
