"""What the tests share: wrong values, well-known complexes, and judges of answers.

The judges work out in other ways than the package whether an answer is right.
"""

from itertools import combinations

from shapeholes.complexes import Complex

FULL = Complex((tuple(range(8)),))
EMPTY = Complex(())
RING = Complex(((0, 1), (0, 2), (1, 2)))

# No one of these is a complex, a simplex, a chain but (), a matrix but () or a prime.
ODD_VALUES = (
    None, True, False, 0, 1, -1, 31, 10 ** 40, "", "0 1", [], {}, {0: 1}, [0], [(0,)], (True,), (0, 0), (1, 0), (31,),
    (-1,), ("0",), (None,), ([0],), ({},), ((0,),), (((0,),),), tuple(range(9)), ((), ()), ((0,), (0,)),
    (Complex(()),), ValueError, object())

PRIMES = (2, 3, 5, 7)
BAD_PRIMES = (0, 1, 4, 9, 11, -3, True, None, "2", (3,), [], RING)

PROJECTIVE = Complex((
    (0, 1, 4), (0, 1, 5), (0, 2, 3), (0, 2, 5), (0, 3, 4), (1, 2, 3), (1, 2, 4), (1, 3, 5), (2, 4, 5), (3, 4, 5)))
TORUS = Complex(tuple(
    tuple(sorted((k, (k + step) % 7, (k + 3) % 7))) for k in range(7) for step in (1, 2)))


def grid_surface(rows, columns, turned):
    """A torus of squares in two triangles each, or a Klein bottle if it is turned."""
    def at(row, column):
        if row == rows:
            row, column = 0, -column if turned else column
        return row * columns + column % columns
    triangles = []
    for row in range(rows):
        for column in range(columns):
            a, b = at(row, column), at(row, column + 1)
            c, d = at(row + 1, column), at(row + 1, column + 1)
            triangles += [tuple(sorted((a, b, d))), tuple(sorted((a, c, d)))]
    return Complex(tuple(triangles))


KLEIN = grid_surface(4, 4, True)


SPHERE = Complex(((0, 1, 2), (0, 1, 3), (0, 2, 3), (1, 2, 3)))
OCTAHEDRON = Complex(tuple((a, b, c) for a in (0, 1) for b in (2, 3) for c in (4, 5)))
# Two surfaces of one kind and with as many vertices in which all vertices are connected, so that no edge can be flipped.
FROZEN = (
    Complex(((0, 1, 3), (0, 1, 6), (0, 2, 4), (0, 2, 7), (0, 3, 8), (0, 4, 6), (0, 5, 7), (0, 5, 8), (1, 2, 4), (1, 2, 8),
             (1, 3, 5), (1, 4, 5), (1, 6, 7), (1, 7, 8), (2, 3, 5), (2, 3, 7), (2, 5, 6), (2, 6, 8), (3, 4, 6), (3, 4, 7),
             (3, 6, 8), (4, 5, 8), (4, 7, 8), (5, 6, 7))),
    Complex(((0, 1, 3), (0, 1, 4), (0, 2, 4), (0, 2, 5), (0, 3, 7), (0, 5, 6), (0, 6, 8), (0, 7, 8), (1, 2, 3), (1, 2, 6),
             (1, 4, 7), (1, 5, 6), (1, 5, 8), (1, 7, 8), (2, 3, 8), (2, 4, 8), (2, 5, 7), (2, 6, 7), (3, 4, 5), (3, 4, 6),
             (3, 5, 8), (3, 6, 7), (4, 5, 7), (4, 6, 8))))


def grown(shape, many, source):
    """A surface with so many vertices, made by new ones in triangles drawn from a source."""
    triangles = list(shape.facets)
    vertices = {vertex for triangle in triangles for vertex in triangle}
    for fresh in [vertex for vertex in range(31) if vertex not in vertices][:many - len(vertices)]:
        a, b, c = triangles.pop(source.randrange(len(triangles)))
        triangles += [tuple(sorted(triangle)) for triangle in ((a, b, fresh), (a, c, fresh), (b, c, fresh))]
    return Complex(tuple(triangles))


def tips_of(triangles, edge):
    return [vertex for triangle in triangles if set(edge) <= set(triangle) for vertex in triangle if vertex not in edge]


def flipped_by(triangles, edge):
    """The triangles behind the flip of an edge, None if its tips are connected."""
    one, other = tips_of(triangles, edge)
    if any({one, other} <= set(triangle) for triangle in triangles):
        return None
    kept = [triangle for triangle in triangles if not set(edge) <= set(triangle)]
    return kept + [tuple(sorted((one, other, end))) for end in edge]


def stirred(shape, many, source):
    """A surface behind so many flips of edges drawn from a source."""
    triangles = list(shape.facets)
    for _ in range(many):
        low, high = sorted(source.sample(source.choice(sorted(triangles)), 2))
        triangles = flipped_by(triangles, (low, high)) or triangles
    return Complex(tuple(triangles))


def disk(ring, first):
    """A disk whose border goes along a ring of vertices, with new ones from a first one on."""
    size = len(ring)
    triangles = []
    for k in range(size):
        a, b = ring[k], ring[(k + 1) % size]
        c, d = first + k, first + (k + 1) % size
        triangles += [(a, b, c), (b, c, d), (c, d, first + size)]
    return Complex(tuple(tuple(sorted(triangle)) for triangle in triangles))


def moore(order, first=0):
    """A disk whose border goes `order` times around a ring of three vertices."""
    return disk([first + k % 3 for k in range(3 * order)], first + 3)


# A disk whose border goes around a ring twice forwards and once back: no holes, but no free pair.
DUNCE = disk([0, 1, 2, 0, 1, 2, 0, 2, 1], 3)


def moved_by(shape, many):
    return Complex(tuple(tuple(vertex + many for vertex in facet) for facet in shape.facets))


def all_parts(simplex):
    return [part for length in range(1, len(simplex) + 1) for part in combinations(simplex, length)]


def closed(simplices):
    """The set of all faces."""
    return {part for simplex in simplices for part in all_parts(simplex)}


def faces(shape):
    return closed(shape.facets)


def product(one, other, width):
    return tuple(tuple(sum(row[k] * other[k][j] for k in range(len(other))) for j in range(width)) for row in one)


def determinant(rows):
    """By fractions-free elimination."""
    rows, sign, before = [list(row) for row in rows], 1, 1
    for k in range(len(rows) - 1):
        pivot = next((i for i in range(k, len(rows)) if rows[i][k]), None)
        if pivot is None:
            return 0
        if pivot != k:
            rows[k], rows[pivot], sign = rows[pivot], rows[k], -sign
        for i in range(k + 1, len(rows)):
            for j in range(k + 1, len(rows)):
                rows[i][j] = (rows[i][j] * rows[k][k] - rows[i][k] * rows[k][j]) // before
        before = rows[k][k]
    return sign * rows[-1][-1] if rows else 1


def border(simplex):
    return [(simplex[:k] + simplex[k + 1:], (-1) ** k) for k in range(len(simplex))]


def border_of_chain(chain):
    totals = {}
    for simplex, number in chain:
        for face, sign in border(simplex):
            totals[face] = totals.get(face, 0) + sign * number
    return {face: number for face, number in totals.items() if number}


def is_chain(value):
    simplices = [simplex for simplex, _ in value]
    return (isinstance(value, tuple) and all(isinstance(pair, tuple) and pair[1] for pair in value)
            and simplices == sorted(set(simplices)) and len({len(simplex) for simplex in simplices}) <= 1
            and not any(isinstance(number, bool) for _, number in value))


def span_rank(vectors, prime):
    """The rank, by a prime, of dicts from anything to numbers."""
    return len(reduced(vectors, prime)[0])


def reduced(vectors, prime):
    """Independent rows with the vectors' sums of multiples, and the sums of multiples of the vectors that are 0."""
    rows, nothings = [], []
    for at, vector in enumerate(vectors):
        rest = {key: number % prime for key, number in vector.items() if number % prime}
        made = {at: 1}
        for key, row, parts in rows:
            factor = rest.get(key, 0) * pow(row[key], -1, prime) % prime
            rest, made = less_times(rest, row, factor, prime), less_times(made, parts, factor, prime)
        if rest:
            rows.append((next(iter(rest)), rest, made))
        else:
            nothings.append(made)
    return rows, nothings


def less_times(one, other, factor, prime):
    total = {key: (one.get(key, 0) - factor * other.get(key, 0)) % prime for key in {**one, **other}}
    return {key: number for key, number in total.items() if number}


def cells(simplices, degree):
    """The simplices of a degree, among them the empty one where it is given."""
    return sorted(simplex for simplex in simplices if len(simplex) == degree + 1)


def borders(simplices, degree, nothing=()):
    """The boundaries of all simplices of a degree; some faces count as nothing."""
    return [{face: sign for face, sign in border(simplex) if face not in nothing} for simplex in cells(simplices, degree)]


def cycles(simplices, degree, prime, nothing=()):
    """Dicts that make up all chains of simplices whose boundary is nothing, by a prime."""
    found = cells(simplices, degree)
    return [{found[at]: number for at, number in made.items()}
            for made in reduced(borders(simplices, degree, nothing), prime)[1]]


def rank_by(vectors, nothings, prime):
    """The rank of vectors with others counted as nothing."""
    return span_rank(nothings + vectors, prime) - span_rank(nothings, prime)


def holes_by(simplices, degree, prime):
    return rank_by(cycles(simplices, degree, prime), borders(simplices, degree + 1), prime)


def with_empty(shape):
    return faces(shape) | {()}


class Judge:
    """What a test case asks beyond what unittest has."""

    def assert_raises(self, error, call, *arguments):
        """The call raises just this error: of the same class, with the same field."""
        with self.assertRaises(type(error)) as caught:
            call(*arguments)
        self.assertIs(type(caught.exception), type(error))
        self.assertEqual(vars(caught.exception), vars(error), repr(arguments)[:200])
