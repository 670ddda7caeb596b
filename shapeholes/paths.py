"""Edge paths: trees, words of paths, ways into sheets, and coverings."""

from shapeholes.chains import cells_of
from shapeholes.complexes import complex_of, vertices_of
from shapeholes.errors import BadPath, BadSheets, BadTree, BadWay, NotConnected, TooMany
from shapeholes.fields import basis_of, row_across
from shapeholes.forests import tied
from shapeholes.parts import components
from shapeholes.simplices import LAST_VERTEX, is_integer

MOST_STEPS = 100
MOST_SHEETS = 3
MOST_WAYS = 2000


def check_connected(shape):
    if len(components(shape)) != 1:
        raise NotConnected("a complex of one component is needed")


def spanning_tree(shape):
    check_connected(shape)
    _, forest = tied(vertices_of(shape), cells_of(shape, 1))
    return tuple(forest)


def check_tree(shape, tree):
    check_connected(shape)
    if not is_tree(shape, tree):
        raise BadTree("an ascending tuple of edges that connect all vertices without a ring is needed")


def is_tree(shape, tree):
    if not isinstance(tree, tuple) or not all([edge in shape and len(edge) == 2 for edge in tree]):
        return False
    if not all([tree[k - 1] < tree[k] for k in range(1, len(tree))]):
        return False
    vertices = vertices_of(shape)
    _, forest = tied(vertices, tree)
    return len(forest) == len(tree) == len(vertices) - 1


def generators_of(shape, tree):
    """A dict from the edges besides a tree to their numbers, from 1 on."""
    edges = [edge for edge in cells_of(shape, 1) if edge not in tree]
    return {edges[k]: k + 1 for k in range(len(edges))}


def letter_of(generators, one, other):
    """The letter of the step from a vertex to another one, 0 if it has none."""
    return generators.get((one, other), 0) - generators.get((other, one), 0)


def letters_of(generators, path):
    letters = [letter_of(generators, path[k - 1], path[k]) for k in range(1, len(path))]
    return tuple([letter for letter in letters if letter])


def check_path(shape, path):
    if not isinstance(path, tuple) or not 1 <= len(path) <= MOST_STEPS:
        raise BadPath(None)
    for k in range(len(path)):
        if (path[k],) not in shape:
            raise BadPath(k)
        if k > 0 and path[k] != path[k - 1] and tuple(sorted([path[k - 1], path[k]])) not in shape:
            raise BadPath(k)


def word_of(shape, tree, path):
    check_tree(shape, tree)
    check_path(shape, path)
    return letters_of(generators_of(shape, tree), path)


def presentation(shape, tree):
    check_tree(shape, tree)
    generators = generators_of(shape, tree)
    return len(generators), tuple([letters_of(generators, triangle + triangle[:1])
                                   for triangle in cells_of(shape, 2)])


def check_sheets(sheets):
    if not is_integer(sheets) or not 1 <= sheets <= MOST_SHEETS:
        raise BadSheets(f"a number of sheets from 1 to {MOST_SHEETS} is needed")


def ways(shape, tree, sheets):
    """All ways into sheets.

    Each permutation of at most three sheets leads a sheet to sign * sheet + shift, by the number of
    sheets. Signs are free of the shifts, and for given signs the shifts solve linear equations."""
    many, words = presentation(shape, tree)
    check_sheets(sheets)
    if sheets == 1:
        return [((0,),) * many]
    found = []
    for signs in signs_for(many, words, sheets):
        rows = [shift_row(word, signs) for word in words]
        for shifts in solutions_of(rows, many, sheets):
            found.append(tuple([permutation(sign, shift, sheets) for sign, shift in zip(signs, shifts)]))
        if len(found) > MOST_WAYS:
            raise TooMany(MOST_WAYS)
    return sorted(found)


def permutation(sign, shift, sheets):
    return tuple([(sign * sheet + shift) % sheets for sheet in range(sheets)])


def signs_for(many, words, sheets):
    """All signs of the generators with which each word has the sign 1; there is a way with each of them."""
    if sheets == 2:
        return [[1] * many]
    rows = [[len([letter for letter in word if abs(letter) == k + 1]) for k in range(many)] for word in words]
    return [[1 - 2 * bit for bit in bits] for bits in solutions_of(rows, many, 2)]


def shift_row(word, signs):
    """How often the shift of each generator is a part of the shift of a word."""
    row = [0] * len(signs)
    for letter in word:
        sign = signs[abs(letter) - 1]
        row = [sign * number for number in row]
        # Back from sign * sheet + shift it is sign * sheet - sign * shift.
        row[abs(letter) - 1] += 1 if letter > 0 else -sign
    return row


def solutions_of(rows, width, prime):
    """All rows of numbers by a prime whose products with each of the rows add up to 0."""
    basis = basis_of(rows, prime)
    places = [place for place, _ in basis]
    found = [[0] * width]
    for free in [place for place in range(width) if place not in places]:
        step = row_across(basis, free, width, prime)
        found = [[(mine + factor * its) % prime for mine, its in zip(row, step)]
                 for row in found for factor in range(prime)]
        if len(found) > MOST_WAYS:
            raise TooMany(MOST_WAYS)
    return found


def is_way(shape, tree, sheets, value):
    many, words = presentation(shape, tree)
    if not isinstance(value, tuple) or len(value) != many:
        return False
    if not all([is_permutation(item, sheets) for item in value]):
        return False
    return all([sheet_behind(value, word, sheet) == sheet for word in words for sheet in range(sheets)])


def is_permutation(value, sheets):
    if not isinstance(value, tuple) or not all([is_integer(item) for item in value]):
        return False
    return sorted(list(value)) == list(range(sheets))


def sheet_behind(way, word, sheet):
    """The sheet to which the letters of a word lead a sheet."""
    for letter in word:
        sheet = way[letter - 1][sheet] if letter > 0 else way[-letter - 1].index(sheet)
    return sheet


def covering(shape, tree, sheets, way):
    check_tree(shape, tree)
    check_sheets(sheets)
    if not is_way(shape, tree, sheets, way):
        raise BadWay("a way into the sheets is needed")
    vertices = vertices_of(shape)
    if len(vertices) * sheets > LAST_VERTEX + 1:
        raise TooMany(LAST_VERTEX + 1)
    generators = generators_of(shape, tree)
    first = {vertices[k]: k * sheets for k in range(len(vertices))}
    return complex_of([tuple([first[vertex] + sheet_behind(way, letters_of(generators, (facet[0], vertex)), sheet)
                              for vertex in facet])
                       for facet in shape.facets for sheet in range(sheets)])
