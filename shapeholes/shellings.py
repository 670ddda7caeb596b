"""Orders in which the facets of a complex can be put together."""

from shapeholes.complexes import check_complex
from shapeholes.errors import NotPure, NotShelling, TooMany
from shapeholes.simplices import is_simplex, without_place

MOST_FACETS = 12


class Pile:
    """Facets of one length; sets of them are integers whose bits are their indexes."""

    def __init__(self, rows):
        self.rows = rows
        self.holders = {}
        for k in range(len(rows)):
            for face in parts_asked(rows[k]):
                self.holders[face] = self.holders.get(face, 0) | 1 << k

    def restriction(self, at, ahead):
        """The vertices of a facet without which it lies in one of a set of facets ahead."""
        row = self.rows[at]
        return tuple([row[place] for place in range(len(row))
                      if self.holders[without_place(row, place)] & ahead])

    def fits(self, at, ahead):
        """Whether a facet may come behind a set of facets.

        Its meet with one of them lies in a meet that lacks one vertex only just if that one vertex
        is a vertex of its restriction that the other facet lacks."""
        common = ahead
        for vertex in self.restriction(at, ahead):
            common = common & self.holders[(vertex,)]
        return common == 0


def parts_asked(facet):
    """The vertices of a facet as simplices, and its parts less one vertex, each once."""
    parts = {(vertex,): True for vertex in facet}
    for place in range(len(facet)):
        parts[without_place(facet, place)] = True
    return list(parts)


def is_pure(shape):
    check_complex(shape)
    return all([len(facet) == len(shape.facets[0]) for facet in shape.facets])


def check_pure(shape):
    if not is_pure(shape):
        raise NotPure("the facets have unlike lengths")


def is_shelling(shape, order):
    check_pure(shape)
    if not isinstance(order, tuple) or not all([is_simplex(item) for item in order]):
        return False
    if sorted(list(order)) != list(shape.facets):
        return False
    pile = Pile(order)
    return all([pile.fits(at, (1 << at) - 1) for at in range(len(order))])


def shelling(shape):
    check_pure(shape)
    if len(shape.facets) > MOST_FACETS:
        raise TooMany(MOST_FACETS)
    places = completed(Pile(shape.facets), [], 0, {})
    return None if places is None else tuple([shape.facets[at] for at in places])


def completed(pile, places, ahead, failed):
    """A shelling that begins with these places, whose set is ahead; None if there is none.

    Which facets may follow depends on the set only, so a set that failed is not tried again."""
    if len(places) == len(pile.rows):
        return places
    if ahead in failed:
        return None
    for at in range(len(pile.rows)):
        if at not in places and pile.fits(at, ahead):
            found = completed(pile, places + [at], ahead | 1 << at, failed)
            if found is not None:
                return found
    failed[ahead] = True
    return None


def restrictions(shape, order):
    if not is_shelling(shape, order):
        raise NotShelling("a shelling of the complex is needed")
    pile = Pile(order)
    return tuple([(order[at], pile.restriction(at, (1 << at) - 1)) for at in range(len(order))])
