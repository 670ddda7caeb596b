"""Closed surfaces: orientations, kinds, sums and polygons."""

from shapeholes.complexes import complex_of, euler_of, vertices_of
from shapeholes.errors import BadLetters, NotSurface, TooMany
from shapeholes.forests import number_of_parts
from shapeholes.maps import fundamental
from shapeholes.parts import components
from shapeholes.simplices import LAST_VERTEX, is_integer, without_place
from shapeholes.walks import Walk, holders_of

MOST_LETTERS = 60
GREATEST_LETTER = 60


def is_surface(shape):
    if len(components(shape)) != 1 or not all([len(facet) == 3 for facet in shape.facets]):
        return False
    holders = holders_of(shape.facets)
    if not all([len(holders[edge]) == 2 for edge in holders]):
        return False
    links = links_of(shape.facets)
    return all([number_of_parts(points_of(links[vertex]), links[vertex]) == 1 for vertex in links])


def links_of(triangles):
    """A dict from the vertices of triangles to the lists of the edges across from them."""
    links = {}
    for triangle in triangles:
        for place in range(3):
            links.setdefault(triangle[place], []).append(without_place(triangle, place))
    return links


def points_of(edges):
    return sorted(set([point for edge in edges for point in edge]))


def check_surface(shape):
    if not is_surface(shape):
        raise NotSurface("a closed surface is needed")


def orientation(shape):
    check_surface(shape)
    # The boundary of the signed triangles is nothing just if signs agree where orders fit.
    return fundamental(shape)


def band(shape):
    check_surface(shape)
    walk = Walk(shape)
    if walk.clash is None:
        return None
    there, back = walk.way_to(walk.clash[0]), walk.way_to(walk.clash[1])
    return tuple(there + back[::-1])


def is_turning(shape, value):
    check_surface(shape)
    if not isinstance(value, tuple) or len(value) < 2:
        return False
    if not all([item in shape and len(item) == 3 for item in value]) or value[0] != value[-1]:
        return False
    apart = [places_apart(value[k - 1], value[k]) for k in range(1, len(value))]
    if not all([len(places) == 2 for places in apart]):
        return False
    # An edge has the sign of the place of the vertex across: orders fit if one place is even and one is odd.
    return len([places for places in apart if sum(places) % 2 == 0]) % 2 == 1


def places_apart(one, other):
    """The places of the vertices that only one of two triangles has: two places if they have a common edge."""
    return ([place for place in range(3) if one[place] not in other]
            + [place for place in range(3) if other[place] not in one])


def kind(shape):
    check_surface(shape)
    return kind_by(fundamental(shape) is not None, euler_of(shape) + 1)


def kind_by(has_orientation, euler):
    """The kind of a surface by the alternating sum of its counts."""
    return (True, (2 - euler) // 2) if has_orientation else (False, 2 - euler)


def connected_sum(one, other):
    check_surface(one)
    check_surface(other)
    olds = vertices_of(one)
    fresh = [vertex for vertex in vertices_of(other) if vertex not in other.facets[0]]
    if len(olds) + len(fresh) > LAST_VERTEX + 1:
        raise TooMany(LAST_VERTEX + 1)
    first = {olds[k]: k for k in range(len(olds))}
    second = {fresh[k]: len(olds) + k for k in range(len(fresh))}
    for mine, its in zip(one.facets[0], other.facets[0]):
        second[its] = first[mine]
    return complex_of([tuple(sorted([names[vertex] for vertex in facet]))
                       for names, shape in ((first, one), (second, other)) for facet in shape.facets[1:]])


def polygon(shape):
    check_surface(shape)
    sides = unfolded(shape.facets)
    edges = sorted(set([tuple(sorted(side)) for side in sides]))
    numbers = {edges[k]: k + 1 for k in range(len(edges))}
    return tuple([numbers[(one, other)] if one < other else -numbers[(other, one)] for one, other in sides])


def unfolded(triangles):
    """The sides, in turn, of a polygon of all triangles joined along edges, each as a pair of vertices."""
    holders = holders_of(triangles)
    used = {triangles[0]: True}
    one, other, last = triangles[0]
    sides = [(one, other), (other, last), (last, one)]
    at = 0
    while at < len(sides):
        one, other = sides[at]
        fresh = [triangle for triangle, _ in holders[tuple(sorted(sides[at]))] if triangle not in used]
        if fresh:
            used[fresh[0]] = True
            tip = [vertex for vertex in fresh[0] if vertex not in sides[at]][0]
            sides[at:at + 1] = [(one, tip), (tip, other)]
        else:
            at += 1
    return sides


def check_letters(word):
    if not isinstance(word, tuple) or not 2 <= len(word) <= MOST_LETTERS:
        raise BadLetters(None)
    for k in range(len(word)):
        if not is_integer(word[k]) or not 1 <= abs(word[k]) <= GREATEST_LETTER:
            raise BadLetters(k)
    numbers = [abs(letter) for letter in word]
    for k in range(len(word)):
        if numbers.count(numbers[k]) != 2:
            raise BadLetters(k)


def word_kind(word):
    check_letters(word)
    corners = number_of_parts(list(range(len(word))), glued_corners(word))
    return kind_by(all([-letter in word for letter in word]), corners - len(word) // 2 + 1)


def glued_corners(word):
    """Pairs of corners of a polygon that become one; side number k goes from corner k to the next one."""
    ends = {}
    for k in range(len(word)):
        corners = (k, (k + 1) % len(word))
        ends.setdefault(abs(word[k]), []).append(corners if word[k] > 0 else corners[::-1])
    return [pair for sides in ends.values() for pair in zip(sides[0], sides[1])]


def normal_word(word):
    has_orientation, number = word_kind(word)
    if not has_orientation:
        return tuple([k // 2 + 1 for k in range(2 * number)])
    if number == 0:
        return (1, -1)
    return tuple([letter for k in range(1, 2 * number, 2) for letter in (k, k + 1, -k, -k - 1)])
