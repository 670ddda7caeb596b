"""Complexes of sets that have something in common."""

from shapeholes.complexes import Complex, check_complex, simplices_of, vertices_of
from shapeholes.errors import BadCover, BadTable, TooMany
from shapeholes.fields import check_prime
from shapeholes.matrices import columns_of
from shapeholes.reductions import has_holes
from shapeholes.simplices import LAST_VERTEX, MOST_VERTICES, is_integer


def nerve(shape):
    check_complex(shape)
    if len(shape.facets) > MOST_VERTICES:
        raise TooMany(MOST_VERTICES)
    return shape_of_sets([[vertex in facet for facet in shape.facets] for vertex in vertices_of(shape)])


def shape_of_sets(rows):
    """The complex of the sets of indexes at which each row has 1 or True; those of no index are left out."""
    sets = [tuple([k for k in range(len(row)) if row[k]]) for row in rows]
    return Complex(tuple([indexes for indexes in sets if indexes]))


def check_table(table):
    if not isinstance(table, tuple) or len(table) > MOST_VERTICES:
        raise BadTable(f"a tuple of at most {MOST_VERTICES} rows is needed")
    for row in table:
        if not isinstance(row, tuple) or len(row) > MOST_VERTICES:
            raise BadTable(f"a row is a tuple of at most {MOST_VERTICES} numbers")
        if len(row) != len(table[0]) or not all([is_integer(item) and item in (0, 1) for item in row]):
            raise BadTable("rows have one length, and the numbers 0 and 1 only")


def row_shape(table):
    check_table(table)
    return shape_of_sets(columns_of(table))


def column_shape(table):
    check_table(table)
    return shape_of_sets(table)


def check_cover(parts):
    if not isinstance(parts, tuple) or len(parts) > MOST_VERTICES:
        raise BadCover(None)
    for k in range(len(parts)):
        if not isinstance(parts[k], Complex):
            raise BadCover(k)


def cover_nerve(parts):
    check_cover(parts)
    return shape_of_sets([[(vertex,) in part for part in parts] for vertex in range(LAST_VERTEX + 1)])


def is_clean_cover(parts, prime):
    check_cover(parts)
    check_prime(prime)
    meets = {}
    for indexes in simplices_of(cover_nerve(parts)):
        # The set without its last index is shorter, so that its meet is known.
        around = meets[indexes[:-1]] if indexes[:-1] else simplices_of(parts[indexes[-1]])
        common = [simplex for simplex in around if simplex in parts[indexes[-1]]]
        if has_holes(common, prime):
            return False
        meets[indexes] = common
    return True
