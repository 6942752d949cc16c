"""Histories: what walking through one tells, and whether it is possible for news."""

from suresnap.news import shelf_keys, version_of


def values_written(history, key, version):
    """Return the list of the values that the writes of a key by a version wrote, in order."""
    return [value for commit in history[:version] for written, value in commit if written == key]


def times_in(history, key, version):
    """Return how often a key has been written by a version."""
    return len(values_written(history, key, version))


def value_in(history, key, version):
    """Return the value of a key at a version."""
    values = values_written(history, key, version)
    return values[-1] if values else 0


def keys_written(history, version):
    """Return the tuple of the keys that the commit of a version wrote."""
    # At version 0 no commit stands; its index would be that of the last one.
    if version < 1:
        return ()
    return tuple([key for key, _ in history[version - 1]])


def head_of(news):
    """Return the head of a list of news."""
    versions = [version_of(piece) for piece in news]
    return max([version for version in versions if version is not None], default=0)


def is_commit(shelf, commit):
    """Return whether a tuple of pairs is a commit over a shelf."""
    keys = [key for key, _ in commit]
    return len(keys) > 0 and keys == sorted(set(keys)) and all([key in shelf for key in keys])


def differ(told):
    """Return whether a list of pairs (thing, what is told of it) tells two things of one."""
    first = {}
    for thing, what in told:
        if first.setdefault(thing, what) != what:
            return True
    return False


def tells_two_values(news):
    """Return whether two pieces value tell two values for one write."""
    return differ([((piece[1], piece[2]), piece[3]) for piece in news if piece[0] == "value"])


def value_is_true(history, piece):
    """Return whether a piece value is true of a history."""
    _, key, number, value = piece
    values = values_written(history, key, len(history))
    # News of a write that is not there says nothing false.
    return number < 1 or number > len(values) or values[number - 1] == value


def commit_is_true(history, piece):
    """Return whether a piece wrote, many, among or did is true of a history."""
    word, version, told = piece
    keys = keys_written(history, version)
    if word == "wrote":
        return keys == told
    if word == "many":
        return len(keys) == told
    if word == "did":
        return told in keys
    return all([key in told for key in keys])


def is_true(shelf, history, piece):
    """Return whether a piece is true of a history over a shelf that has the version of the piece."""
    # A key that the shelf lacks makes a piece false even where a walk would find it true.
    if not all([key in shelf for key in shelf_keys(piece)]):
        return False
    if piece[0] == "value":
        return value_is_true(history, piece)
    if piece[0] == "head":
        return piece[1] <= len(history)
    if piece[0] == "times":
        _, key, version, number = piece
        return times_in(history, key, version) == number
    return commit_is_true(history, piece)


def agrees(shelf, history, news):
    """Return whether a list of tuples of pairs is a history that is possible for a shelf and news."""
    if not all([is_commit(shelf, commit) for commit in history]):
        return False
    if len(history) != head_of(news) or tells_two_values(news):
        return False
    return all([is_true(shelf, history, piece) for piece in news])
