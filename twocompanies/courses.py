"""Courses: what can follow one another on a board, moment by moment, from a start to an end."""


def reached(board, start, steps):
    """For each moment the list of what can follow on the start; steps tells it for one piece."""
    layers = [[start]]
    for piece in board.pieces:
        found = {}
        for here in layers[-1]:
            for after, mark in steps(piece, here):
                found[after] = True
        layers.append(list(found))
    return layers


def count_courses(board, start, end, steps):
    """For each moment a dict that tells from where how many courses lead on to the end."""
    layers = reached(board, start, steps)
    later = {last: 1 for last in layers[-1] if last == end}
    counts = [later]
    for number in range(len(board.pieces) - 1, -1, -1):
        earlier = {}
        for here in layers[number]:
            many = sum([later.get(after, 0) for after, mark in steps(board.pieces[number], here)])
            if many > 0:
                earlier[here] = many
        counts.append(earlier)
        later = earlier
    return counts[::-1]
