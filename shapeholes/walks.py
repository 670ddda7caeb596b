"""Walks over the facets of a pure complex, across the faces that lack one vertex."""

from shapeholes.chains import border_of


class Walk:
    """Signs for all facets that can be reached from the first one.

    Each facet gets the sign with which a face that it has in common with the one before is nothing
    in the boundary of both. A clash is a pair of neighbors whose signs do not do so, None without any."""

    def __init__(self, shape):
        self.holders = holders_of(shape.facets)
        self.signs = {shape.facets[0]: 1}
        self.before = {}
        self.clash = None
        self.spread()

    def spread(self):
        waiting = list(self.signs)
        at = 0
        while at < len(waiting):
            facet = waiting[at]
            at += 1
            for other, sign in self.neighbors(facet):
                if other not in self.signs:
                    self.signs[other] = sign
                    self.before[other] = facet
                    waiting.append(other)
                elif self.signs[other] != sign:
                    self.clash = (facet, other)

    def neighbors(self, facet):
        """Pairs of a facet across a face and the sign that it should have."""
        return [(other, -self.signs[facet] * sign * its) for face, sign in border_of(facet)
                for other, its in self.holders[face] if other != facet]

    def way_to(self, facet):
        """The facets from the first one to one that was reached."""
        way = [facet]
        while way[0] in self.before:
            way = [self.before[way[0]]] + way
        return way

    def is_closed(self):
        """Whether each face that lacks one vertex lies in just two facets."""
        return all([len(self.holders[face]) == 2 for face in self.holders])


def holders_of(facets):
    """A dict from the faces that lack one vertex to the facets around them, with signs in their boundaries."""
    holders = {}
    for facet in facets:
        for face, sign in border_of(facet):
            holders.setdefault(face, []).append((facet, sign))
    return holders
