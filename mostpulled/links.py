"""Links between nodes, and how far they let one node get above another one.

A link is a tuple that begins with the node it leads from and the node it leads to. Those of this file go on with
a bound, the index of a term, and a way: the setting of the second node less that of the first one is at most the bound.
"""

from mostpulled.terms import nodes_of


def links_of(terms, limits, size):
    """Return the links of terms whose arguments have the limits (least, greatest); None is no limit."""
    links = []
    for index, (term, (least, greatest)) in enumerate(zip(terms, limits)):
        dial, other = nodes_of(term, size)
        if greatest is not None:
            links.append((other, dial, greatest, index, 1))
        if least is not None:
            links.append((dial, other, -least, index, -1))
    return links


def spread(links, far):
    """Return (far, came, last) after the numbers far of the nodes are lowered along links as far as they go.

    None is a number that is not reached. came has, for each node, the link that lowered it last, or None. last is
    None, or a node that was lowered also in a round that only a circle of links with a sum below 0 can bring.
    """
    far = list(far)
    came = [None] * len(far)
    last = None
    for _ in range(len(far)):
        last = None
        for link in links:
            start, end, bound = link[:3]
            if far[start] is not None and (far[end] is None or far[start] + bound < far[end]):
                far[end] = far[start] + bound
                came[end] = link
                last = end
    return (far, came, last)


def reach(links, size, start):
    """Return (far, came): how far each node gets above the start at most, None without end, and the links there."""
    far, came, _ = spread(links, [0 if node == start else None for node in range(size + 1)])
    return (far, came)


def range_of(links, size, node, other):
    """Return (least, greatest) of the setting of a node less that of another one; None without end."""
    above, _ = reach(links, size, other)
    below, _ = reach(links, size, node)
    return (None if below[other] is None else -below[other], above[node])


def trail(came, node):
    """Return the list of the links by which a node was reached, the first one first."""
    links = []
    while came[node] is not None:
        links.append(came[node])
        node = came[node][0]
    return links[::-1]


def circle(came, last):
    """Return the list of the links of the circle that made a node be lowered without end."""
    node = last
    # So many links back, the node is in the circle itself and no longer behind it.
    for _ in range(len(came)):
        node = came[node][0]
    links = [came[node]]
    while links[-1][0] != node:
        links.append(came[links[-1][0]])
    return links
