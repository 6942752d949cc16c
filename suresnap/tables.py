"""Tables of which commit wrote which keys: whether there is one for news, and which is the first."""

from suresnap.bounds import cell_bounds, clashes, due_cells, shut_cells, told_values, version_bounds
from suresnap.histories import head_of
from suresnap.networks import HUB, Network


class Table:
    """A network in which each write goes from the hub to its version and through its cell to its key.

    There it goes on from version to version up to the head and back to the hub, so that behind each
    version of a key all of its writes by this version flow together.
    """

    def __init__(self, shelf, news):
        self.shelf = shelf
        self.last = head_of(news)
        self.network = Network(1 + self.last * (1 + len(shelf)))
        self.cells = {}
        self.sums = {}
        for version, (least, greatest) in enumerate(version_bounds(shelf, news), start=1):
            # Even news beyond the limits that tells of no keys makes no commit without any.
            self.network.connect(HUB, version, max(least, 1), greatest)
        self.lay_cells(shut_cells(shelf, news), due_cells(news))
        self.lay_sums({(piece[1], piece[2]): piece[3] for piece in news if piece[0] == "times"})

    def node_of(self, place, version):
        """Return the node of a version of the key at this place of the shelf."""
        return self.last * (1 + place) + version

    def lay_cells(self, shut, due):
        """Lay an arc for each cell, from its version to its key."""
        for place, key in enumerate(self.shelf):
            for version in range(1, self.last + 1):
                least, greatest = cell_bounds((version, key), shut, due)
                arc = self.network.connect(version, self.node_of(place, version), least, greatest)
                self.cells[version, key] = arc

    def lay_sums(self, told):
        """Lay an arc behind each version of each key, with the numbers that are told."""
        for place, key in enumerate(self.shelf):
            for version in range(1, self.last + 1):
                behind = self.node_of(place, version + 1) if version < self.last else HUB
                least, greatest = 0, version
                if (key, version) in told:
                    least = greatest = told[key, version]
                arc = self.network.connect(self.node_of(place, version), behind, least, greatest)
                self.sums[key, version] = arc

    def make_first(self):
        """Bring a settled table to the first one of all."""
        for version in range(1, self.last + 1):
            for key in self.shelf:
                arc = self.cells[version, key]
                self.network.fewest(arc)
                self.network.hold(arc)

    def keys_of(self, version):
        """Return the list of the keys that the commit of a version writes."""
        return [key for key in self.shelf if self.network.amounts[self.cells[version, key]] > 0]


def tells_of_no_commit(news):
    """Return whether news tells what a commit in front of version 1 did, where there is none."""
    return any([piece[0] in ("wrote", "many", "did") and piece[1] < 1 for piece in news])


def settled_table(shelf, news):
    """Return a table that agrees with news, None if there is none."""
    if clashes(shelf, news) or tells_of_no_commit(news):
        return None
    table = Table(shelf, news)
    return table if table.network.settle() else None


def possible(shelf, news):
    """Return whether a history agrees with news."""
    return settled_table(shelf, news) is not None


def history_of(table, news):
    """Return the history of a table with the values that news tells and 0 elsewhere."""
    told = told_values(news)
    written = {key: 0 for key in table.shelf}
    history = []
    for version in range(1, table.last + 1):
        pairs = []
        for key in table.keys_of(version):
            written[key] += 1
            pairs.append((key, told.get((key, written[key]), 0)))
        history.append(tuple(pairs))
    return history


def first_history(shelf, news):
    """Return the first possible history, None if there is none."""
    table = settled_table(shelf, news)
    if table is None:
        return None
    table.make_first()
    return history_of(table, news)
