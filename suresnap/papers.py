"""Papers: short proofs that no history agrees with news, made and checked by counting cells."""

from suresnap.bounds import cell_bounds, clashes, due_cells, shut_cells, stretches, version_bounds
from suresnap.histories import head_of
from suresnap.networks import HUB, Network

FULL = "full"
EMPTY = "empty"


def is_paper(head, rows, paper):
    """Return whether a tuple is a paper about news with this head and these stretches."""
    kind, versions, chosen = paper
    # A version or stretch that stood twice would count twice, and prove what is not so.
    return (
        kind in (FULL, EMPTY)
        and list(versions) == [version for version in range(1, head + 1) if version in versions]
        and list(chosen) == [row[:3] for row in rows if row[:3] in chosen]
    )


def sums_of(bounds):
    """Return the sum of the least and the sum of the greatest numbers of a list of bounds."""
    return (sum([least for least, _ in bounds]), sum([greatest for _, greatest in bounds]))


def bounds_of_cells(shelf, news, rows):
    """Return the list of the bounds of all cells, as tuples (version, stretch, least, greatest)."""
    shut = shut_cells(shelf, news)
    due = due_cells(news)
    cells = []
    for key, first, last, _, _ in rows:
        for version in range(first, last + 1):
            least, greatest = cell_bounds((version, key), shut, due)
            cells.append((version, (key, first, last), least, greatest))
    return cells


def sums_of_cells(cells, versions, chosen):
    """Return the sums of the bounds of the cells that join a paper to what it leaves out.

    The first pair is that of the cells of other versions in its stretches, the second one that of the
    cells of its versions outside of its stretches.
    """
    others = []
    outside = []
    for version, row, least, greatest in cells:
        if version not in versions and row in chosen:
            others.append((least, greatest))
        if version in versions and row not in chosen:
            outside.append((least, greatest))
    return sums_of(others), sums_of(outside)


def is_right(shelf, news, paper):
    """Return whether a paper about a list of news is right."""
    rows = stretches(shelf, news)
    if not is_paper(head_of(news), rows, paper):
        return False
    kind, versions, chosen = paper
    bounds = version_bounds(shelf, news)
    low_versions, high_versions = sums_of([bounds[version - 1] for version in versions])
    low_stretches, high_stretches = sums_of([row[3:] for row in rows if row[:3] in chosen])
    # The least number of a cell is 1 if it is due, the greatest one is 1 if it is open.
    others, outside = sums_of_cells(bounds_of_cells(shelf, news, rows), versions, chosen)
    if kind == FULL:
        return low_versions + others[0] > high_stretches + outside[1]
    return low_stretches + outside[0] > high_versions + others[1]


def network_of(shelf, news, rows):
    """Return a network in which each write goes from the hub to its version, its stretch and back."""
    bounds = version_bounds(shelf, news)
    network = Network(1 + len(bounds) + len(rows))
    for version, (least, greatest) in enumerate(bounds, start=1):
        network.connect(HUB, version, least, greatest)
    nodes = {}
    for node, (key, first, last, least, greatest) in enumerate(rows, start=len(bounds) + 1):
        network.connect(node, HUB, least, greatest)
        nodes[key, first, last] = node
    for version, row, least, greatest in bounds_of_cells(shelf, news, rows):
        network.connect(version, nodes[row], least, greatest)
    return network


def paper_about(found, head, rows):
    """Return the paper that tells why no more goes on from the nodes that were found.

    More must come into these nodes than can leave them: the versions among them can't place their
    writes. If the hub is among them, the other nodes must give more than can come into them: the
    stretches among those can't get their writes.
    """
    full = HUB not in found
    versions = [version for version in range(1, head + 1) if (version in found) == full]
    chosen = [row[:3] for node, row in enumerate(rows, start=head + 1) if (node in found) == full]
    return (FULL if full else EMPTY, tuple(versions), tuple(chosen))


def paper(shelf, news):
    """Return None if a history agrees or if the news clashes, and otherwise a right paper."""
    if clashes(shelf, news):
        return None
    rows = stretches(shelf, news)
    network = network_of(shelf, news, rows)
    arc = network.first_lacking()
    if arc is None:
        return None
    return paper_about(network.behind(arc), head_of(news), rows)
