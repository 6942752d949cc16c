"""What news tells of commits, cells, writes and stretches, and whether it clashes."""

from suresnap.histories import differ, head_of, tells_two_values
from suresnap.news import shelf_keys


def commit_sizes(news):
    """Return the list of the pairs (version, number of keys that its commit wrote) that news tells."""
    sizes = [(piece[1], piece[2]) for piece in news if piece[0] == "many"]
    return sizes + [(piece[1], len(piece[2])) for piece in news if piece[0] == "wrote"]


def version_bounds(shelf, news):
    """Return the list of the bounds (least, greatest) of the versions from 1 to the head."""
    told = dict(commit_sizes(news))
    bounds = []
    for version in range(1, head_of(news) + 1):
        if version in told:
            bounds.append((told[version], told[version]))
        else:
            bounds.append((1, len(shelf)))
    return bounds


def shut_cells(shelf, news):
    """Return a dict with all cells (version, key) that are shut as its keys."""
    shut = {}
    for piece in news:
        if piece[0] in ("wrote", "among"):
            _, version, told = piece
            for key in shelf:
                if key not in told:
                    shut[version, key] = True
    return shut


def due_cells(news):
    """Return a dict with all cells (version, key) that are due as its keys."""
    due = {}
    for piece in news:
        if piece[0] in ("wrote", "did"):
            for key in shelf_keys(piece):
                due[piece[1], key] = True
    return due


def cell_bounds(cell, shut, due):
    """Return the least and the greatest number of writes of a cell."""
    return (1 if cell in due else 0, 0 if cell in shut else 1)


def told_values(news):
    """Return a dict of the values that news tells, by pairs (key, number of the write)."""
    return {(piece[1], piece[2]): piece[3] for piece in news if piece[0] == "value"}


def marks_of(news, key):
    """Return the list of the marks of a key, as pairs (version, number), ascending, each once."""
    told = [(piece[2], piece[3]) for piece in news if piece[0] == "times" and piece[1] == key]
    return sorted(set([(0, 0)] + told))


def marks_clash(marks):
    """Return whether marks tell two numbers for one version, or a lesser one for a later version."""
    for before, after in zip(marks, marks[1:]):
        if before[0] == after[0] or before[1] > after[1]:
            return True
    return False


def names_strange_key(shelf, news):
    """Return whether a piece that is not value names a key that is not on the shelf."""
    return not all([key in shelf for piece in news for key in shelf_keys(piece)])


def clashes(shelf, news):
    """Return whether a list of news clashes."""
    if names_strange_key(shelf, news) or tells_two_values(news) or differ(commit_sizes(news)):
        return True
    shut = shut_cells(shelf, news)
    if any([cell in shut for cell in due_cells(news)]):
        return True
    return any([marks_clash(marks_of(news, key)) for key in shelf])


def stretches(shelf, news):
    """Return the list of all stretches, as tuples (key, first, last, least, greatest)."""
    head = head_of(news)
    rows = []
    for key in shelf:
        marks = marks_of(news, key)
        for before, after in zip(marks, marks[1:]):
            number = after[1] - before[1]
            rows.append((key, before[0] + 1, after[0], number, number))
        last = marks[-1][0]
        if last < head:
            rows.append((key, last + 1, head, 0, head - last))
    return rows
