"""What is sure: the values of keys at versions, and the versions at which views are true."""

from suresnap.bounds import told_values
from suresnap.counts import counts_in
from suresnap.tables import settled_table


def value_behind(told, key, number):
    """Return the value of a key behind this number of its writes, None if news does not tell it."""
    # Even news beyond the limits that tells a write 0 makes no such write.
    return told.get((key, number)) if number > 0 else 0


def value_by(table, told, key, version):
    """Return the value of a key at a version if it is sure by a settled table and the told values, otherwise None."""
    least, greatest = counts_in(table, key, version)
    values = [value_behind(told, key, number) for number in range(least, greatest + 1)]
    return values[0] if values.count(values[0]) == len(values) else None


def values_by(table, told, view, version):
    """Return the list of the values of the keys of a view at a version, None for those that are not sure."""
    return [value_by(table, told, key, version) for key in view]


def sure_value(shelf, news, key, version):
    """Return the value of a key at a version if it is sure, otherwise None."""
    return value_by(settled_table(shelf, news), told_values(news), key, version)


def true_versions(shelf, news, view):
    """Return the list of the versions at which a view is true, ascending."""
    table = settled_table(shelf, news)
    told = told_values(news)
    return [version for version in range(table.last + 1) if None not in values_by(table, told, view, version)]


def newest(shelf, news, view):
    """Return the tuple of the greatest version at which a view is true and the tuple of the values there."""
    table = settled_table(shelf, news)
    told = told_values(news)
    version = table.last
    values = values_by(table, told, view, version)
    # This ends: at version 0 the value of every key is 0.
    while None in values:
        version -= 1
        values = values_by(table, told, view, version)
    return (version, tuple(values))


def unsure(shelf, news, view, version):
    """Return the list of the keys of a view whose values are not sure at a version, in order."""
    values = values_by(settled_table(shelf, news), told_values(news), view, version)
    return [key for key, value in zip(view, values) if value is None]
