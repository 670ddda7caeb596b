"""Complexes as texts."""

from shapeholes.complexes import MOST_SIMPLICES, Complex, check_complex
from shapeholes.errors import InvalidText, NotText
from shapeholes.simplices import LAST_VERTEX, MOST_VERTICES

DIGITS = "0123456789"


def write(shape):
    check_complex(shape)
    return "; ".join([" ".join([str(vertex) for vertex in facet]) for facet in shape.facets])


def read(text):
    if not isinstance(text, str):
        raise NotText("a string is needed")
    return Complex(tuple(simplices_in(text)))


def simplices_in(text):
    """The list of the simplices of a text, in its order."""
    simplices = []
    simplex = []
    at = 0
    while at < len(text):
        end = end_of_number(text, at)
        if end > at:
            simplex.append(vertex_at(text, at, end, simplex))
        elif text[at] == ";" and simplex and len(simplices) + 1 < MOST_SIMPLICES:
            simplices.append(tuple(sorted(simplex)))
            simplex = []
        elif text[at] != " ":
            raise InvalidText(at)
        at = max(end, at + 1)
    if simplex:
        simplices.append(tuple(sorted(simplex)))
    elif simplices:
        raise InvalidText(len(text))
    return simplices


def end_of_number(text, at):
    """The index behind the digits that begin at an index, the index itself without a digit."""
    end = at
    while end < len(text) and text[end] in DIGITS:
        end += 1
    return end


def vertex_at(text, at, end, simplex):
    """The vertex that a text has from at to end, the next one of a simplex."""
    word = text[at:end]
    # The length is asked before the value: Python does not convert numbers of any length.
    if len(word) > len(str(LAST_VERTEX)) or len(word) > 1 and word[0] == "0":
        raise InvalidText(at)
    vertex = int(word)
    if vertex > LAST_VERTEX or vertex in simplex or len(simplex) == MOST_VERTICES:
        raise InvalidText(at)
    return vertex
