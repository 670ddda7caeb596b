"""Points that edges connect."""


def tied(points, edges):
    """A dict from each point to the first one that edges connect with it, and a list of edges.

    The list has those of the edges, in turn, whose ends are not connected by edges ahead."""
    firsts = {point: point for point in points}
    forest = []
    for edge in edges:
        low, high = sorted([firsts[edge[0]], firsts[edge[1]]])
        if low != high:
            forest.append(edge)
            firsts = {point: low if firsts[point] == high else firsts[point] for point in firsts}
    return firsts, forest


def number_of_parts(points, edges):
    """The number of the parts into which points fall that edges do not connect."""
    return len(points) - len(tied(points, edges)[1])
