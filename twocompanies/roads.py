"""The roads that two companies draw on a board, as they are described by the loads of a cover.

A node is a height at a moment, (moment, 0, height), or the crossroad of a piece, (number, 1, k). What stands
at a node is tied or goes on at one or two points: a knot has one for what comes in and one for what goes out.
The rim places are points, too. So each point of a road is linked to at most two others.
"""

from twocompanies.pairings import rim_of_column


def way_loads(piece, number, before, after):
    """The list of triples (node, node, walkers) of the single ways at a piece with these loads before and behind it."""
    kind, k = piece[0], piece[1]
    upper, lower = (number, 0, k), (number, 0, k + 1)
    found = []
    for height in range(len(before)):
        here, there = (number, 0, height), (number + 1, 0, height)
        if kind == "meet" and height in (k, k + 1):
            found.extend([(here, (number, 1, k), before[height]), ((number, 1, k), there, after[height])])
        else:
            found.append((here, there, min(before[height], after[height])))
    if kind == "down":
        found.append((upper, (number + 1, 0, k + 1), before[k] - after[k]))
    if kind == "up":
        found.append((lower, (number + 1, 0, k), after[k] - before[k]))
    return found


def is_knot(course, node):
    """Whether two walkers stand at a node."""
    moment, kind, height = node
    walkers = course[moment][height]
    if kind == 1:
        walkers += course[moment][height + 1]
    return walkers == 2


def link(links, one, other):
    """Links two points with one another."""
    links.setdefault(one, []).append(other)
    links.setdefault(other, []).append(one)


def all_links(board, course):
    """A dict from each point of a road to the points that it is linked to.

    A way that two walkers take leads from knot to knot. It is closed there and is no ring, so it is left out.
    """
    links = {}
    for height in range(board.size):
        link(links, height, (0, 0, height, "in"))
        link(links, rim_of_column(board.size, height), (len(board.pieces), 0, height, "in"))
    for number, piece in enumerate(board.pieces):
        for start, end, walkers in way_loads(piece, number, course[number], course[number + 1]):
            if walkers == 1:
                side = "out" if is_knot(course, start) else "in"
                link(links, start + (side,), end + ("in",))
    return links


def end_of_road(links, start, seen):
    """The last point of the road from a point, all of which is marked as seen."""
    seen[start] = True
    last = start
    further = links[start]
    while further != []:
        last = further[0]
        seen[last] = True
        further = [point for point in links[last] if point not in seen]
    return last


def drawing(board, course):
    """The pairing of the rim places at the ends of roads, and how many rings there are.

    The course has the loads at all moments.
    """
    links = all_links(board, course)
    seen = {}
    pairs = []
    for place in range(2 * board.size):
        if place not in seen:
            pairs.append((place, end_of_road(links, place, seen)))
    rings = 0
    for point in list(links):
        if point not in seen:
            end_of_road(links, point, seen)
            rings += 1
    return (tuple(pairs), rings)
