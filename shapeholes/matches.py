"""Names with which one complex becomes another one."""

from shapeholes.complexes import check_complex, vertices_of


class Net:
    """The facets of a complex, as blocks of the indexes of its vertices."""

    def __init__(self, shape):
        vertices = vertices_of(shape)
        self.spots = list(range(len(vertices)))
        self.blocks = [[vertices.index(vertex) for vertex in facet] for facet in shape.facets]
        self.around = [[k for k in range(len(self.blocks)) if point in self.blocks[k]]
                       for point in self.spots]


def isomorphism(one, other):
    check_complex(one)
    check_complex(other)
    images = matched(Net(one), Net(other))
    if images is None:
        return None
    olds, news = vertices_of(one), vertices_of(other)
    return tuple([(olds[k], news[images[k]]) for k in range(len(olds))])


def matched(one, other):
    """The points of other to which those of one go, None if there is no such way.

    Points are first told apart by what is seen from them, which settles most complexes."""
    views = [view_from(one, point) for point in one.spots]
    others = [view_from(other, point) for point in other.spots]
    names = ranks_of(views + others)
    return search(one, [names[view] for view in views], other, [names[view] for view in others])


def view_from(net, point):
    return refined(net, marked([0] * len(net.spots), point))[1]


def search(one, colors, other, shades):
    """As matched, with points that go to those of their color only."""
    colors, trace = refined(one, colors)
    shades, track = refined(other, shades)
    if trace != track:
        return None
    point = first_unsettled(colors)
    if point is None:
        return [shades.index(color) for color in colors]
    failed = []
    for image in [k for k in other.spots if shades[k] == colors[point]]:
        if is_alike_any(other, shades, failed, image):
            continue
        images = search(one, marked(colors, point), other, marked(shades, image))
        if images is not None:
            return images
        failed.append(image)
    return None


def is_alike_any(net, colors, points, image):
    """Whether the net goes to itself with one of the points going to the image.

    If that point failed, the image fails too: so no search goes through all like points."""
    for point in points:
        if search(net, marked(colors, point), net, marked(colors, image)) is not None:
            return True
    return False


def refined(net, colors):
    """Colors that tell apart points with unlike blocks around them, and how they arose.

    Two nets that arose in one way have colors that mean the same."""
    trace = ()
    while True:
        blocks = [tuple(sorted([colors[point] for point in block])) for block in net.blocks]
        signs = [(colors[point], tuple(sorted([blocks[k] for k in net.around[point]])))
                 for point in net.spots]
        names = ranks_of(signs)
        trace = trace + (tuple(sorted(signs)),)
        is_stable = len(names) == len(ranks_of(colors))
        colors = [names[sign] for sign in signs]
        if is_stable:
            return colors, trace


def ranks_of(signs):
    """The rank of each value among the unlike ones of a list."""
    return {sign: rank for rank, sign in enumerate(sorted(set(signs)))}


def marked(colors, point):
    """Colors with one of its own for a point."""
    return [2 * colors[k] + (1 if k == point else 0) for k in range(len(colors))]


def first_unsettled(colors):
    """The first point whose color another one has too, None if there is none."""
    for point in range(len(colors)):
        if colors.count(colors[point]) > 1:
            return point
    return None
