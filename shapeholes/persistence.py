"""How holes come and go in a filtration."""

from shapeholes.complexes import vertices_of
from shapeholes.errors import BadTime
from shapeholes.filtrations import check_filtration, check_order, check_time, order_of, times_by_simplex
from shapeholes.forests import tied
from shapeholes.simplices import check_degree, sides_of


def pairs(filtration, order):
    check_filtration(filtration)
    check_order(filtration, order)
    reduced = []
    fillers = {}
    for at, column in enumerate(border_columns(order)):
        while last_row(column) in fillers:
            column = column ^ reduced[fillers[last_row(column)]]
        reduced.append(column)
        if column:
            fillers[last_row(column)] = at
    return pairs_at(order, fillers)


def pairs_by_rows(filtration, order):
    """As pairs, but each row is cleared in all columns at once, from the last row on."""
    check_filtration(filtration)
    check_order(filtration, order)
    columns = border_columns(order)
    fillers = {}
    for row in range(len(order) - 1, -1, -1):
        ending = [at for at in range(len(columns)) if last_row(columns[at]) == row]
        if ending:
            fillers[row] = ending[0]
        for at in ending[1:]:
            columns[at] = columns[at] ^ columns[ending[0]]
    return pairs_at(order, fillers)


def border_columns(order):
    """The boundary of each simplex of an order, by 2: an integer whose bits are the rows."""
    places = {order[k]: k for k in range(len(order))}
    return [sum([1 << places[side] for side in sides_of(simplex)]) for simplex in order]


def last_row(column):
    """The row of the last 1 of a column, -1 if there is none."""
    return column.bit_length() - 1


def pairs_at(order, fillers):
    """The pairs of simplices of a dict from places that make holes to those that fill them."""
    filling = {at: True for at in fillers.values()}
    return tuple([(order[k], order[fillers[k]] if k in fillers else None)
                  for k in range(len(order)) if k not in filling])


def bars(filtration, degree):
    check_filtration(filtration)
    check_degree(degree, 0)
    come = times_by_simplex(filtration)
    spans = [(come[maker], None if filler is None else come[filler])
             for maker, filler in pairs(filtration, order_of(filtration)) if len(maker) == degree + 1]
    # A bar without an end is behind all that begin with it and have one.
    return tuple(sorted([span for span in spans if span[0] != span[1]],
                        key=lambda span: (span[0], span[1] is None, span[1] or 0)))


def rank_between(filtration, degree, begin, end):
    check_filtration(filtration)
    check_degree(degree, 0)
    check_time(begin)
    check_time(end)
    if end < begin:
        raise BadTime("the end is before the begin")
    # Each bar that lasts from begin to end is one hole that the map keeps; all others become nothing.
    return len([first for first, last in bars(filtration, degree)
                if first <= begin and (last is None or last > end)])


def least_forest(filtration):
    check_filtration(filtration)
    come = times_by_simplex(filtration)
    edges = sorted([simplex for simplex in come if len(simplex) == 2],
                   key=lambda simplex: (come[simplex], simplex))
    _, forest = tied(vertices_of(filtration.shape), edges)
    return tuple(sorted(forest))
