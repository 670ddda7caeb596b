"""Flips that lead from one closed surface to another one.

A vertex of three edges can be taken away, and what it leaves is a surface with a vertex less. So a
surface is flipped down to few vertices first; there a search leads to those of the other surface, and
at last the vertices that were taken away are moved to where the other surface has them."""

from heapq import heappop, heappush

from shapeholes.skins import code_of, edge_of, skin_of

MOST_TRIALS = 40
MOST_COMPARED = 6


class Tower:
    """A surface, and what is left of it when vertices of three edges are taken away in turn.

    The skin at each level has one vertex less than the one below it. The road is the list of the
    flips at the bottom, as pairs of the edge before and the edge behind a flip."""

    def __init__(self, shape):
        self.skins = [skin_of(shape)]
        self.gone = []
        self.road = []

    def top(self):
        return self.skins[-1]

    def height(self):
        return len(self.gone)

    def flip_at(self, level, kept, dropped):
        """Flip the edge of two vertices at a level, and do what it takes at the levels below.

        A vertex that lies in a triangle of the edge one level below lies in the one with the kept
        vertex then; so all flips that this takes are those of edges at the dropped vertex."""
        edge = edge_of(kept, dropped)
        if level == 0:
            self.road.append((edge, self.skins[0].flip(edge)))
            return
        inner = self.gone[level - 1]
        is_inside = inner in self.skins[level - 1].tips[edge]
        self.flip_at(level - 1, kept, dropped)
        if is_inside:
            self.flip_at(level - 1, inner, dropped)
        self.skins[level].flip(edge)

    def flip_top(self, edge):
        self.flip_at(self.height(), edge[0], edge[1])

    def shrink(self):
        """Take vertices away as long as an edge shows one that can be."""
        spot = shrinking_spot(self.top())
        while spot is not None:
            self.free_vertex(spot[0], spot[1])
            self.gone.append(spot[0])
            self.skins.append(self.top().without(spot[0]))
            spot = shrinking_spot(self.top())

    def free_vertex(self, vertex, other):
        """Flip edges from a vertex to another one until it has three edges."""
        while len(self.top().connected()[vertex]) > 3:
            tip = self.top().tips[edge_of(vertex, other)][0]
            self.flip_at(self.height(), tip, vertex)

    def raise_top(self):
        """Put the vertex back that was taken away last."""
        self.skins.pop()
        self.gone.pop()

    def move(self, level, target):
        """Move the vertex that the level above lacks into a triangle of that level."""
        vertex = self.gone[level]
        upper = self.skins[level + 1]
        place = tuple(sorted(list(self.skins[level].connected()[vertex])))
        for triangle in triangles_between(upper, place, target):
            one, other = [point for point in place if point in triangle]
            last = [point for point in place if point not in triangle][0]
            self.flip_at(level, one, other)
            self.flip_at(level, last, vertex)
            place = triangle


class Spread:
    """Surfaces to which flips lead from a skin, one for each code; those of least score go on first.

    The score tells only in which order they are found: in the end all are."""

    def __init__(self, skin, score):
        self.score = score
        self.ways = {}
        self.skins = {}
        self.waiting = []
        self.put(code_of(skin)[0], skin, ())

    def put(self, code, skin, way):
        score = self.score
        self.ways[code] = way
        self.skins[code] = skin
        heappush(self.waiting, (score(skin), code))

    def is_over(self):
        return len(self.waiting) == 0

    def grow(self):
        """Flip each edge of the next surface; the answer is the list of the codes that are new."""
        code = heappop(self.waiting)[1]
        source = self.skins[code]
        fresh = []
        for edge in [edge for edge in source.tips if source.can_flip(edge)]:
            skin = source.twin()
            skin.flip(edge)
            seen = code_of(skin)[0]
            if seen not in self.skins:
                self.put(seen, skin, self.ways[code] + (edge,))
                fresh.append(seen)
        return fresh


def crowded(skin):
    """A score that is low where a few vertices have most of the edges, as there are few such surfaces."""
    around = skin.connected()
    return -sum([len(around[vertex]) ** 2 for vertex in around])


def narrow(skin):
    """A score that is low where edges have few vertices connected with both ends."""
    around = skin.connected()
    return tuple(sorted([common_number(around, low, high) for low, high in skin.tips])[:MOST_COMPARED])


def common_number(around, one, other):
    return len([point for point in around[one] if point in around[other]])


def shrinking_spot(skin):
    """A vertex and another one to which all its edges but three can be flipped, None if there is none.

    That is so if only the tips of their edge are connected with both. The vertex has as few edges as can be."""
    around = skin.connected()
    spots = [(len(around[vertex]), vertex, other) for vertex in around for other in around[vertex]
             if common_number(around, vertex, other) == 2]
    # The sphere of four vertices has no vertex too many.
    return min(spots)[1:] if spots and len(around) > 4 else None


def triangles_between(skin, start, target):
    """Triangles, each with a common edge with the one before, from one behind the start to the target."""
    before = {start: start}
    waiting = [start]
    while target not in before:
        place = waiting[0]
        waiting = waiting[1:]
        for low, high, behind in ((place[0], place[1], place[2]), (place[0], place[2], place[1]),
                                  (place[1], place[2], place[0])):
            triangle = tuple(sorted([low, high, skin.across(low, high, behind)]))
            if triangle not in before:
                before[triangle] = place
                waiting.append(triangle)
    way = []
    while target != start:
        way = [target] + way
        target = before[target]
    return way


def settle(tower):
    """Take vertices away from a tower as long as there is one that can be, perhaps behind a few flips."""
    tower.shrink()
    way = way_down(tower.top())
    while way is not None:
        for edge in way:
            tower.flip_top(edge)
        tower.shrink()
        way = way_down(tower.top())


def way_down(skin):
    """Flips behind which a vertex can be taken away, None if a short search does not find any."""
    spread = Spread(skin, narrow)
    for _ in range(MOST_TRIALS):
        if spread.is_over():
            return None
        for code in spread.grow():
            if shrinking_spot(spread.skins[code]) is not None:
                return spread.ways[code]
    return None


def meeting(one, other):
    """The flips of two skins behind which they are alike, None if there are none."""
    spreads = (Spread(one, crowded), Spread(other, crowded))
    codes = list(spreads[0].ways)
    while True:
        for code in codes:
            if code in spreads[0].ways and code in spreads[1].ways:
                return spreads[0].ways[code], spreads[1].ways[code]
        if spreads[0].is_over() or spreads[1].is_over():
            return None
        side = 0 if len(spreads[0].ways) <= len(spreads[1].ways) else 1
        codes = spreads[side].grow()


def names_between(one, other):
    """A dict of names with which one skin becomes the other one, None if there are none."""
    view, sight = code_of(one), code_of(other)
    if view[0] != sight[0]:
        return None
    return {mine: its for mine, its in zip(view[1], sight[1])}


def bring_together(one, other):
    """Flip the tops of two towers until they are alike; whether there is a way.

    If the lowest tops do not meet, vertices are put back: with all of them back the answer is final."""
    settle(one)
    settle(other)
    for tower in (one, other):
        while tower.height() > min(one.height(), other.height()):
            tower.raise_top()
    ways = meeting(one.top(), other.top())
    while ways is None:
        if one.height() == 0:
            return False
        one.raise_top()
        other.raise_top()
        ways = meeting(one.top(), other.top())
    for tower, way in ((one, ways[0]), (other, ways[1])):
        for edge in way:
            tower.flip_top(edge)
    return True


def put_alike(one, other):
    """Move what is gone from a tower to where it is gone from the other one; the names that then lead there."""
    names = names_between(one.top(), other.top())
    for level in range(one.height() - 1, -1, -1):
        place = one.skins[level].connected()[one.gone[level]]
        other.move(level, tuple(sorted([names[vertex] for vertex in place])))
        names[one.gone[level]] = other.gone[level]
    return names


def road_between(one, other):
    """Edges to flip in a closed surface, and the names that lead to the other one, as flip_road has them.

    The two are of one kind, and have as many vertices."""
    first, second = Tower(one), Tower(other)
    names = names_between(first.top(), second.top())
    if names is None:
        if not bring_together(first, second):
            return None
        names = put_alike(first, second)
    olds = {names[vertex]: vertex for vertex in names}
    # The flips of the other surface are taken back one by one, from the last one on.
    edges = [edge for edge, _ in first.road] + [edge_of(olds[fresh[0]], olds[fresh[1]])
                                                for _, fresh in second.road[::-1]]
    return tuple(edges), tuple(sorted([(vertex, names[vertex]) for vertex in names]))
