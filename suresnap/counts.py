"""How often a key can have been written by a version."""

from suresnap.tables import first_history, settled_table


def counts_in(table, key, version):
    """Return the tuple of the least and the greatest number that is possible by a settled table."""
    # No arc of a table stands for version 0, at which no key has been written.
    if version < 1:
        return (0, 0)
    arc = table.sums[key, version]
    least = table.network.fewest(arc)
    return (least, table.network.most(arc))


def counts(shelf, news, key, version):
    """Return the tuple of the least and the greatest number of writes of a key by a version."""
    return counts_in(settled_table(shelf, news), key, version)


def history_with(shelf, news, key, version, number):
    """Return the first possible history with this number of writes of a key by a version, or None."""
    return first_history(shelf, [*news, ("times", key, version, number)])
