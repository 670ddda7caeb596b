"""Complexes whose simplices come in time."""

from shapeholes.complexes import check_complex, complex_of, simplices_of
from shapeholes.errors import BadOrder, BadTime, BadTimes, NotFiltration
from shapeholes.simplices import is_integer, sides_of

LAST_TIME = 1000


class Filtration:
    """A complex with a time for each simplex. A filtration does not change once it is made."""

    def __init__(self, shape, times):
        check_complex(shape)
        check_times(shape, times)
        self.shape = shape
        self._times = times

    @property
    def times(self):
        return self._times

    def __eq__(self, other):
        return isinstance(other, Filtration) and self.shape == other.shape and self._times == other._times


def is_time(value):
    return is_integer(value) and 0 <= value <= LAST_TIME


def check_time(time):
    if not is_time(time):
        raise BadTime(f"a time from 0 to {LAST_TIME} is needed")


def check_times(shape, times):
    simplices = simplices_of(shape)
    if not isinstance(times, tuple) or len(times) != len(simplices):
        raise BadTimes(None)
    come = {}
    for k in range(len(simplices)):
        if not is_time(times[k]) or any([come[side] > times[k] for side in sides_of(simplices[k])]):
            raise BadTimes(k)
        come[simplices[k]] = times[k]


def check_filtration(filtration):
    if not isinstance(filtration, Filtration):
        raise NotFiltration("a filtration is needed")


def times_by_simplex(filtration):
    """A dict from the simplices, in the order of simplices_of, to their times."""
    return {simplex: time for simplex, time in zip(simplices_of(filtration.shape), filtration.times)}


def stage(filtration, time):
    check_filtration(filtration)
    check_time(time)
    come = times_by_simplex(filtration)
    return complex_of([simplex for simplex in come if come[simplex] <= time])


def order_of(filtration):
    check_filtration(filtration)
    come = times_by_simplex(filtration)
    return tuple(sorted(list(come), key=lambda simplex: (come[simplex], len(simplex), simplex)))


def check_order(filtration, order):
    come = times_by_simplex(filtration)
    if not isinstance(order, tuple) or len(order) != len(come):
        raise BadOrder(None)
    ahead = {}
    latest = 0
    for k in range(len(order)):
        # Only a simplex of the complex may be looked up: another value may not be a key at all.
        if order[k] not in filtration.shape or not is_due(order[k], ahead) or come[order[k]] < latest:
            raise BadOrder(k)
        ahead[order[k]] = True
        latest = come[order[k]]


def is_due(simplex, ahead):
    """Whether a simplex has not come yet, but all its other faces have."""
    return simplex not in ahead and all([side in ahead for side in sides_of(simplex)])
