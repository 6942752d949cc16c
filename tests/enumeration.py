"""Slow second ways to tables, counts, values, papers and quarrels, written apart from the program."""

import itertools

from tests import reference


def commits_of(shelf):
    """All commits as tuples of keys, in the order of point 6: a key that is not written comes first."""
    rows = list(itertools.product((False, True), repeat=len(shelf)))[1:]
    return [tuple(key for key, wrote in zip(shelf, row) if wrote) for row in rows]


def is_true(shelf, table, piece):
    """Whether a piece that is not value is true of a table."""
    word = piece[0]
    if word == "head":
        return piece[1] <= len(table)
    if word == "times":
        _, key, version, number = piece
        return key in shelf and [key in commit for commit in table[:version]].count(True) == number
    _, version, told = piece
    commit = table[version - 1]
    if word == "many":
        return len(commit) == told
    if word == "did":
        return told in shelf and told in commit
    if any(key not in shelf for key in told):
        return False
    return commit == told if word == "wrote" else not set(commit) - set(told)


class Every:
    """All tables with a number of versions over a shelf, in the order of point 6.

    A set of tables is an integer with one bit for each of them, the first one the lowest.
    """

    def __init__(self, shelf, versions):
        self.shelf = shelf
        self.versions = versions
        self.tables = list(itertools.product(commits_of(shelf), repeat=versions))
        self.known = {}

    def true_of(self, piece):
        """The set of the tables that a piece is true of."""
        if piece[0] == "value":
            return (1 << len(self.tables)) - 1
        if piece not in self.known:
            bits = ["1" if is_true(self.shelf, table, piece) else "0" for table in reversed(self.tables)]
            self.known[piece] = int("".join(bits), 2)
        return self.known[piece]

    def agreeing(self, news):
        """The set of the tables that agree with news whose head is their number of versions."""
        values = {}
        for piece in news:
            if piece[0] == "value" and values.setdefault(piece[1:3], piece[3]) != piece[3]:
                return 0
        found = (1 << len(self.tables)) - 1
        for piece in news:
            found &= self.true_of(piece)
        return found

    def first(self, found, news):
        """The first history of a set of tables, None if it is empty."""
        if not found:
            return None
        return with_values(self.tables[(found & -found).bit_length() - 1], news)

    def numbers(self, found, key, version):
        """The list of the numbers of writes of a key by a version in a set of tables."""
        return [n for n in range(version + 1) if found & self.true_of(("times", key, version, n))]


    def value(self, found, news, key, version):
        """The value of a key at a version if it is the same in a set of tables, otherwise None."""
        told = {piece[1:3]: piece[3] for piece in news if piece[0] == "value"}
        told[key, 0] = 0
        values = {told.get((key, number), "any") for number in self.numbers(found, key, version)}
        return None if len(values) > 1 or "any" in values else values.pop()

    def members(self, found):
        """The list of the tables of a set."""
        return [table for at, table in enumerate(self.tables) if found >> at & 1]


def every(shelf, news, known={}):
    """All tables over a shelf with as many versions as the head of news."""
    place = (shelf, reference.head_of(news))
    if place not in known:
        known[place] = Every(*place)
    return known[place]


def with_values(table, news, other=0):
    """The history of a table with the values that news tells, and another value elsewhere."""
    told = {piece[1:3]: piece[3] for piece in news if piece[0] == "value"}
    history = []
    for at, commit in enumerate(table):
        numbers = [(key, sum(key in earlier for earlier in table[:at + 1])) for key in commit]
        history.append(tuple((key, told.get((key, number), other)) for key, number in numbers))
    return history


class Sweep:
    """All tables at once, by how often each key can have been written: for more versions."""

    def __init__(self, shelf, news):
        self.shelf = shelf
        self.news = news
        self.versions = reference.head_of(news)
        self.commits = commits_of(shelf)
        forward = [self.cut({(0,) * len(shelf)}, 0)]
        for version in range(1, self.versions + 1):
            rows = self.fitting(version)
            after = {self.add(state, row) for state in forward[-1] for row in rows}
            forward.append(self.cut(after, version))
        self.states = [None] * self.versions + [forward[-1]]
        for version in range(self.versions, 0, -1):
            rows = self.fitting(version)
            behind = self.states[version]
            self.states[version - 1] = {
                state for state in forward[version - 1] if any(self.add(state, row) in behind for row in rows)}

    def add(self, state, commit):
        return tuple(number + (key in commit) for key, number in zip(self.shelf, state))

    def fitting(self, version):
        pieces = [piece for piece in self.news if piece[0] in ("wrote", "many", "among", "did") and piece[1] == version]
        table = [()] * (version - 1)
        return [row for row in self.commits if all(is_true(self.shelf, table + [row], piece) for piece in pieces)]

    def cut(self, states, version):
        for piece in self.news:
            if piece[0] == "times" and piece[2] == version:
                at = self.shelf.index(piece[1])
                states = {state for state in states if state[at] == piece[3]}
        return states

    def possible(self):
        return bool(self.states[0])

    def counts(self, key, version):
        numbers = {state[self.shelf.index(key)] for state in self.states[version]}
        return min(numbers), max(numbers)

    def first(self):
        table = []
        state = (0,) * len(self.shelf)
        for version in range(1, self.versions + 1):
            rows = [row for row in self.fitting(version) if self.add(state, row) in self.states[version]]
            table.append(rows[0])
            state = self.add(state, rows[0])
        return with_values(table, self.news)


def clashes(shelf, news):
    """Whether news clashes: each rule of point 13 for all pairs of pieces."""
    names = {"wrote": lambda piece: piece[2], "among": lambda piece: piece[2], "did": lambda piece: piece[2:],
             "times": lambda piece: piece[1:2]}
    if any(key not in shelf for piece in news if piece[0] in names for key in names[piece[0]](piece)):
        return True
    return any(pair_clashes(shelf, one, other) for one in news for other in news)


def pair_clashes(shelf, one, other):
    numbers = [piece[2] if piece[0] == "many" else len(piece[2]) if piece[0] == "wrote" else None
               for piece in (one, other)]
    if None not in numbers and one[1] == other[1] and numbers[0] != numbers[1]:
        return True
    if one[0] in ("wrote", "did") and other[0] in ("wrote", "among") and one[1] == other[1]:
        due = one[2] if one[0] == "wrote" else (one[2],)
        if any(key not in other[2] for key in due):
            return True
    if one[0] == other[0] == "value":
        return one[1:3] == other[1:3] and one[3] != other[3]
    if one[0] == other[0] == "times" and one[1] == other[1]:
        same = one[2] == other[2]
        return same and one[3] != other[3] or one[2] < other[2] and one[3] > other[3] or one[2] == 0 < one[3]
    return False


def stretches(shelf, news):
    """The stretches of news that does not clash, found by a walk over the versions of each key."""
    rows = []
    for key in shelf:
        told = {piece[2]: piece[3] for piece in news if piece[0] == "times" and piece[1] == key}
        first, number = 1, 0
        for version in range(1, reference.head_of(news) + 1):
            if version in told:
                rows.append((key, first, version, told[version] - number, told[version] - number))
                first, number = version + 1, told[version]
        if first <= reference.head_of(news):
            rows.append((key, first, reference.head_of(news), 0, reference.head_of(news) + 1 - first))
    return rows


def has_paper(shelf, news):
    """Whether there is a right paper about news that does not clash, found among all papers (point 12).

    All sets of stretches are gone through, or all sets of versions if these are fewer: what of the
    others goes best with such a set can be told of each of them alone.
    """
    versions, parts, free, due = grid_of(shelf, news)
    if len(versions) < len(parts):
        versions, parts = parts, versions
        free = [(part, version) for version, part in free]
        due = [(part, version) for version, part in due]
    left = [(least, greatest, bits(free, at), bits(due, at)) for at, (least, greatest) in enumerate(versions)]
    return any(paper_stands(left, parts, chosen) for chosen in range(1 << len(parts)))


def grid_of(shelf, news):
    """The bounds of the versions and of the stretches, and the open and the due cells by their indices."""
    told = {piece[1]: piece[2] if piece[0] == "many" else len(piece[2])
            for piece in news if piece[0] in ("many", "wrote")}
    versions = [(told.get(version, 1), told.get(version, len(shelf)))
                for version in range(1, reference.head_of(news) + 1)]
    rows = stretches(shelf, news)
    free, due = [], []
    for part, (key, first, last, _, _) in enumerate(rows):
        for version in range(first, last + 1):
            pieces = [piece for piece in news if piece[0] in ("wrote", "among", "did") and piece[1] == version]
            if not any(piece[0] != "did" and key not in piece[2] for piece in pieces):
                free.append((version - 1, part))
            if any(piece[0] == "wrote" and key in piece[2] or piece == ("did", version, key) for piece in pieces):
                due.append((version - 1, part))
    return versions, [row[3:] for row in rows], free, due


def says_so(shelf, news, paper):
    """Whether what a paper says is so, counted over all versions, stretches and cells (point 12)."""
    kind, its_versions, its_stretches = paper
    versions, parts, free, due = grid_of(shelf, news)
    rows = [row[:3] for row in stretches(shelf, news)]
    ours = [version in its_versions for version in range(1, len(versions) + 1)]
    theirs = [row in its_stretches for row in rows]
    assert ours.count(True) == len(its_versions) and theirs.count(True) == len(its_stretches)
    low_versions, high_versions = [sum(row[at] for row, one in zip(versions, ours) if one) for at in (0, 1)]
    low_parts, high_parts = [sum(row[at] for row, one in zip(parts, theirs) if one) for at in (0, 1)]
    others_in = [sum(theirs[part] and not ours[version] for version, part in cells) for cells in (due, free)]
    outside = [sum(ours[version] and not theirs[part] for version, part in cells) for cells in (due, free)]
    if kind == "full":
        return low_versions + others_in[0] > high_parts + outside[1]
    return low_parts + outside[0] > high_versions + others_in[1]


def is_in_form(shelf, news, paper):
    """Whether a tuple has the form of a paper about news."""
    kind, its_versions, its_stretches = paper
    versions = tuple(version for version in range(1, reference.head_of(news) + 1) if version in its_versions)
    rows = tuple(row[:3] for row in stretches(shelf, news) if row[:3] in its_stretches)
    return type(paper) is tuple and kind in ("full", "empty") and paper[1:] == (versions, rows)


def least_quarrel(shelf, news, further=()):
    """The least list of indices such that no table agrees with these and further pieces, None if there is none."""
    indices = range(len(news))
    subsets = [chosen for size in range(len(news) + 1) for chosen in itertools.combinations(indices, size)]
    for chosen in sorted(subsets, key=lambda one: (len(one), one)):
        pieces = [news[at] for at in chosen] + list(further)
        if not every(shelf, pieces).agreeing(pieces):
            return list(chosen)
    return None


def bits(cells, at):
    """The second indices of the cells with this first index."""
    return sum(1 << other for one, other in cells if one == at)


def paper_stands(left, right, chosen):
    """Whether a paper of one of the two kinds is right of a set of the right side and the best of the left."""
    one = -sum(greatest for at, (_, greatest) in enumerate(right) if chosen >> at & 1)
    other = sum(least for at, (least, _) in enumerate(right) if chosen >> at & 1)
    for least, greatest, free, due in left:
        one += max(least - (free & ~chosen).bit_count(), (due & chosen).bit_count())
        other += max((due & ~chosen).bit_count() - greatest, -(free & chosen).bit_count())
    return one > 0 or other > 0
