"""Closed surfaces that change by flips of their edges."""

from shapeholes.simplices import without_place


class Skin:
    """A closed surface as a dict from its edges to their tips."""

    def __init__(self, tips):
        self.tips = tips

    def twin(self):
        """A skin of its own with the same triangles."""
        return Skin({edge: self.tips[edge] for edge in self.tips})

    def can_flip(self, edge):
        return edge_of(self.tips[edge][0], self.tips[edge][1]) not in self.tips

    def flip(self, edge):
        """Flip an edge; the answer is the edge that takes its place."""
        one, other = self.tips[edge]
        del self.tips[edge]
        for near, far in (edge, edge[::-1]):
            self.change_tip(near, one, far, other)
            self.change_tip(near, other, far, one)
        fresh = edge_of(one, other)
        self.tips[fresh] = edge
        return fresh

    def change_tip(self, one, other, old, new):
        edge = edge_of(one, other)
        self.tips[edge] = tuple([new if tip == old else tip for tip in self.tips[edge]])

    def connected(self):
        """A dict from the vertices to the dicts of the vertices that edges connect with them."""
        found = {}
        for low, high in self.tips:
            found.setdefault(low, {})[high] = True
            found.setdefault(high, {})[low] = True
        return found

    def without(self, vertex):
        """What is left if a vertex of three edges is taken away, and its triangles become one."""
        corners = [edge[0] if edge[1] == vertex else edge[1] for edge in self.tips if vertex in edge]
        left = Skin({edge: self.tips[edge] for edge in self.tips if vertex not in edge})
        for corner in corners:
            one, other = [point for point in corners if point != corner]
            left.change_tip(one, other, vertex, corner)
        return left

    def triangles(self):
        """The ascending list of the triangles."""
        return sorted(set([tuple(sorted(edge + (tip,))) for edge in self.tips for tip in self.tips[edge]]))

    def across(self, one, other, tip):
        """The other tip of an edge."""
        first, second = self.tips[edge_of(one, other)]
        return second if first == tip else first


def edge_of(one, other):
    return (one, other) if one < other else (other, one)


def skin_of(shape):
    """The skin of a complex that is a closed surface."""
    tips = {}
    for triangle in shape.facets:
        for place in range(3):
            edge = without_place(triangle, place)
            tips[edge] = tips.get(edge, ()) + (triangle[place],)
    return Skin(tips)


def code_of(skin):
    """What two skins share just if they are alike up to names, and the vertices in a row that shows it.

    The code is the least one that is seen from one of the rarest corners."""
    corners = rarest_corners(skin)
    best = view_from(skin, corners[0])
    for corner in corners[1:]:
        view = view_from(skin, corner)
        if view[0] < best[0]:
            best = view
    return best


def rarest_corners(skin):
    """The triples of the vertices of a triangle whose numbers of edges come least often in their order."""
    around = skin.connected()
    found = {}
    for low, high in skin.tips:
        for tip in skin.tips[(low, high)]:
            for one, other in ((low, high), (high, low)):
                sign = (len(around[one]), len(around[other]), len(around[tip]))
                found.setdefault(sign, []).append((one, other, tip))
    return found[min([(len(found[sign]), sign) for sign in found])[1]]


def view_from(skin, corner):
    """A code and the vertices in the order in which they are met from a corner, triangle by triangle."""
    one, other, tip = corner
    places = {one: 0, other: 1, tip: 2}
    seen = {tuple(sorted(corner)): True}
    sides = [(one, other, tip), (other, tip, one), (tip, one, other)]
    code = []
    at = 0
    while at < len(sides):
        one, other, behind = sides[at]
        at += 1
        tip = skin.across(one, other, behind)
        if tip not in places:
            places[tip] = len(places)
        code.append(places[tip])
        triangle = tuple(sorted([one, other, tip]))
        if triangle not in seen:
            seen[triangle] = True
            sides.append((one, tip, other))
            sides.append((tip, other, one))
    return tuple(code), list(places)
