"""Matchings of simplices, and what they leave."""

from shapeholes.complexes import check_complex, counts_of, simplices_of
from shapeholes.errors import BadMatching
from shapeholes.simplices import sides_of


def is_loopless(shape, pairs):
    check_complex(shape)
    return are_matched(shape, pairs) and not has_ring(pairs)


def are_matched(shape, pairs):
    if not isinstance(pairs, tuple) or not all([is_step(shape, pair) for pair in pairs]):
        return False
    return len(set([simplex for pair in pairs for simplex in pair])) == 2 * len(pairs)


def is_step(shape, value):
    """Whether a value is a pair of a simplex and one with a vertex more of which it is a face."""
    if not isinstance(value, tuple) or len(value) != 2:
        return False
    return value[0] in shape and value[1] in shape and value[0] in sides_of(value[1])


def has_ring(pairs):
    """Whether one comes back; pairs from which no other one is reached are left out until none is."""
    above = {low: high for low, high in pairs}
    kept = [low for low in above if leads_on(low, above)]
    while len(kept) < len(above):
        above = {low: above[low] for low in kept}
        kept = [low for low in above if leads_on(low, above)]
    return len(kept) > 0


def leads_on(low, above):
    return any([side != low and side in above for side in sides_of(above[low])])


def critical_counts(shape, pairs):
    if not is_loopless(shape, pairs):
        raise BadMatching("a matching without a ring is needed")
    matched = {simplex: True for pair in pairs for simplex in pair}
    lengths = [len(simplex) for simplex in simplices_of(shape) if simplex not in matched]
    return tuple([lengths.count(k + 1) for k in range(len(counts_of(shape)))])
