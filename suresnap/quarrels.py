"""Quarrels: which few pieces of news contradict each other."""

from itertools import combinations

from suresnap.tables import possible


def least_with(shelf, news, further):
    """Return the least list of indices such that no history agrees with these pieces and further ones, or None."""
    # Fewer pieces have histories wherever more have them, so all pieces together tell whether there is such a list.
    if possible(shelf, news + further):
        return None
    for size in range(len(news)):
        for indices in combinations(range(len(news)), size):
            if not possible(shelf, [news[at] for at in indices] + further):
                return list(indices)
    return list(range(len(news)))


def quarrel(shelf, news):
    """Return the least quarrel of a list of news, None if it has none."""
    return least_with(shelf, news, [])


def against(shelf, news, piece):
    """Return the least list of indices that makes a quarrel together with a further piece, None if there is none."""
    return least_with(shelf, news, [piece])
