"""Rows of complexes, and the bars of their holes.

Chains are read by 2, and kept as integers whose bits are simplices."""

from shapeholes.chains import cells_of
from shapeholes.complexes import Complex
from shapeholes.errors import BadRow
from shapeholes.parts import is_part
from shapeholes.reductions import cycles_of
from shapeholes.simplices import check_degree, sides_of

MOST_COMPLEXES = 8


def check_row(row):
    if not isinstance(row, tuple) or not 1 <= len(row) <= MOST_COMPLEXES:
        raise BadRow(None)
    for k in range(len(row)):
        if not isinstance(row[k], Complex) or k > 0 and not are_nested(row[k - 1], row[k]):
            raise BadRow(k)


def are_nested(one, other):
    return is_part(one, other) or is_part(other, one)


class Relations:
    """Relations between the cycles of two complexes of a row.

    A relation is a list of independent integers that make up all its pairs: the bits of the cycle of
    the first complex, and above them those of the second one. Boundaries are related to nothing."""

    def __init__(self, row, degree):
        cells = sorted(set([cell for shape in row for cell in cells_of(shape, degree)]))
        self.row = row
        self.degree = degree
        self.places = {cells[k]: k for k in range(len(cells))}
        self.shift = len(cells)
        self.all_low = (1 << self.shift) - 1
        self.all_high = self.all_low << self.shift

    def bits(self, simplices):
        return sum([1 << self.places[simplex] for simplex in simplices])

    def cycles(self, at):
        # Holes are not reduced here, so that each vertex is a cycle.
        if self.degree == 0:
            return [self.bits([cell]) for cell in cells_of(self.row[at], 0)]
        return [self.bits(list(cycle)) for cycle in cycles_of(self.row[at], self.degree, 2)]

    def boundaries(self, at):
        return [self.bits(sides_of(cell)) for cell in cells_of(self.row[at], self.degree + 1)]

    def equality(self, at):
        """The relation of each hole of a complex to itself."""
        pairs = [cycle | cycle << self.shift for cycle in self.cycles(at)]
        return self.independent(pairs + self.boundaries(at))

    def carried(self, relation, at):
        """A relation to the complex before, carried to the one at a place."""
        if is_part(self.row[at - 1], self.row[at]):
            return self.independent(relation + [chain << self.shift for chain in self.boundaries(at)])
        gone = [cell for cell in cells_of(self.row[at - 1], self.degree) if cell not in self.row[at]]
        return parted(relation, self.bits(gone) << self.shift)[1]

    def independent(self, vectors):
        return parted(vectors, self.all_low | self.all_high)[0]

    def rank(self, relation):
        """Its dimension less those of the holes of either side that are related to nothing.

        Boundaries count as often here as there, and so not at all."""
        return (len(relation) - len(parted(relation, self.all_low)[1])
                - len(parted(relation, self.all_high)[1]))


def parted(vectors, mask):
    """Vectors with the same sums: independent ones at the bits of a mask, and others that are 0 there."""
    lasts = {}
    others = []
    for vector in vectors:
        rest = vector
        while (rest & mask).bit_length() in lasts:
            rest = rest ^ lasts[(rest & mask).bit_length()]
        if rest & mask:
            lasts[(rest & mask).bit_length()] = rest
        else:
            others.append(rest)
    return list(lasts.values()), others


def ranks_between(row, degree):
    """A dict from pairs of places to the numbers of bars that hold both."""
    relations = Relations(row, degree)
    ranks = {}
    for first in range(len(row)):
        relation = relations.equality(first)
        ranks[(first, first)] = relations.rank(relation)
        for last in range(first + 1, len(row)):
            relation = relations.carried(relation, last)
            ranks[(first, last)] = relations.rank(relation)
    return ranks


def zigzag_bars(row, degree):
    check_row(row)
    check_degree(degree, 0)
    ranks = ranks_between(row, degree)
    found = []
    for first, last in ranks:
        # Those that hold both, less those that go on at either end.
        number = (ranks[(first, last)] - ranks.get((first - 1, last), 0)
                  - ranks.get((first, last + 1), 0) + ranks.get((first - 1, last + 1), 0))
        found = found + [(first, last)] * number
    return tuple(found)
