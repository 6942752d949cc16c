"""Lists of news drawn for the tests: true of a table of commits, bent, or as they come."""

import itertools

SHELVES = (("a",), ("b",), ("a", "b"), ("a", "ab"), ("a", "b", "c"), ("b", "ba", "c"))
THREE = ("a", "b", "c")
SIX = ("a", "b", "c", "d", "e", "f")


def some_keys(draw, keys):
    return tuple(key for key in keys if draw.random() < 0.5) or (draw.choice(keys),)


def a_table(draw, shelf, versions):
    """One tuple of keys for each version."""
    return [some_keys(draw, shelf) for _ in range(versions)]


def true_piece(draw, shelf, table):
    """One piece that is true of a table."""
    words = ["times", "times", "value", "head"] + ["wrote", "many", "among", "did"] * bool(table)
    word = draw.choice(words)
    key = draw.choice(shelf)
    if word == "head":
        return (word, draw.randint(0, len(table)))
    if word == "times":
        version = draw.randint(0, len(table))
        return (word, key, version, sum(key in commit for commit in table[:version]))
    if word == "value":
        # The value hangs on the write, so that no two of these differ.
        key, number = draw.choice((key, key, "zz")), draw.choice((1, 1, 2, 3, 20))
        return (word, key, number, number * 10 - len(key))
    version = draw.randint(1, len(table))
    wrote = table[version - 1]
    if word == "wrote":
        return (word, version, wrote)
    if word == "many":
        return (word, version, len(wrote))
    if word == "did":
        return (word, version, draw.choice(wrote))
    return (word, version, tuple(other for other in shelf if other in wrote or draw.random() < 0.4))


def any_piece(draw, shelf, versions, strange=0.03):
    """One piece about some keys and versions, true of a table or not."""
    names = shelf + ("zz",) if draw.random() < strange else shelf
    key = draw.choice(names)
    word = draw.choice(("wrote", "many", "among", "did", "times", "times", "value", "head"))
    if word == "times":
        return (word, key, draw.randint(0, versions), draw.randint(0, versions + 1))
    if word == "value":
        return (word, key, draw.choice((1, 2, 20)), draw.choice((3, 4)))
    if word == "head" or versions == 0:
        return ("head", draw.randint(0, versions))
    version = draw.randint(1, versions)
    if word == "many":
        return (word, version, draw.randint(1, len(shelf) + (draw.random() < 0.1)))
    if word == "did":
        return (word, version, key)
    return (word, version, some_keys(draw, names))


def true_news(draw, shelf, versions, pieces):
    """A list of news that is true of one table with this number of versions, which it tells."""
    table = a_table(draw, shelf, versions)
    return [("head", versions)] + [true_piece(draw, shelf, table) for _ in range(pieces - 1)]


def bent_news(draw, shelf, versions, pieces):
    """A true list of news with one or two other pieces in it."""
    news = true_news(draw, shelf, versions, pieces)
    for _ in range(draw.randint(1, 2)):
        news[draw.randrange(len(news))] = any_piece(draw, shelf, versions)
    return news


def any_news(draw, shelf, versions, pieces):
    return [any_piece(draw, shelf, versions) for _ in range(pieces)]


def strained_news(draw, shelf, versions, pieces):
    """Pieces that leave little room, with one number bent: no history agrees with many of these, yet few clash."""
    table = a_table(draw, shelf, versions)
    news = [("many", version, len(commit)) for version, commit in enumerate(table, start=1)]
    news += [("times", key, versions, sum(key in commit for commit in table)) for key in shelf]
    at = draw.randrange(len(news))
    news[at] = news[at][:-1] + (max(1, news[at][-1] + draw.choice((-1, 1))),)
    for _ in range(draw.randint(0, 3)):
        piece = true_piece(draw, shelf, table)
        news[draw.randrange(len(news))] = piece
        if draw.random() < 0.5:
            news.append(true_piece(draw, shelf, table))
    draw.shuffle(news)
    return news[:pieces]


def tight_news(draw, shelf, versions):
    """40 pieces that leave little room: many of each version, times of each key, and others."""
    table = a_table(draw, shelf, versions)
    news = [("many", version, len(table[version - 1])) for version in range(1, versions + 1)]
    for key in shelf:
        for version in (versions // 2, versions):
            news.append(("times", key, version, sum(key in commit for commit in table[:version])))
    while len(news) < 40:
        piece = true_piece(draw, shelf, table)
        if piece[0] in ("did", "among", "value"):
            news.append(piece)
    draw.shuffle(news)
    return news


def bent_once(draw, news):
    """The list with another number in one of its pieces many or times."""
    news = list(news)
    places = [at for at, piece in enumerate(news) if piece[0] in ("many", "times")]
    at = draw.choice(places)
    news[at] = news[at][:-1] + (max(1, news[at][-1] + draw.choice((-1, 1))),)
    return news


def drawn_news(draw, shelf, versions, pieces):
    """A list of news of one of the three kinds; its pieces stand in any order, some of them twice."""
    kind = draw.choice((true_news, true_news, bent_news, bent_news, any_news))
    news = kind(draw, shelf, versions, pieces)
    # Without its head, news may end before the table that it was drawn from.
    news = news[draw.randint(0, 1):]
    news += [piece for piece in news if draw.random() < 0.1]
    draw.shuffle(news)
    return news


def mixed(draw, news):
    """The pieces of a list in another order, some of them twice."""
    news = news + [piece for piece in news if draw.random() < 0.3]
    draw.shuffle(news)
    return news


def views_of(shelf):
    """All views of a shelf."""
    return [keys for size in range(1, len(shelf) + 1) for keys in itertools.combinations(shelf, size)]


def told_news(draw, shelf, versions, pieces):
    """True news in which the values of many writes are told, so that much is sure; few values differ."""
    news = true_news(draw, shelf, versions, pieces)
    for key in shelf:
        for number in range(1, versions + 1):
            if draw.random() < 0.7 and not any(piece[:3] == ("value", key, number) for piece in news):
                news.append(("value", key, number, draw.choice((0, 0, 5, 5, -7))))
    return mixed(draw, news)


def every_piece(names, versions):
    """All pieces about these keys and versions, with a few numbers of many and a few values."""
    sets = views_of(names)
    out = [("head", version) for version in range(versions + 1)]
    out += [("times", key, version, number)
            for key in names for version in range(versions + 1) for number in range(versions + 2)]
    for version in range(1, versions + 1):
        out += [(word, version, keys) for word in ("wrote", "among") for keys in sets]
        out += [("many", version, number) for number in range(1, len(names) + 1)]
        out += [("did", version, key) for key in names]
    out += [("value", key, number, value) for key in names for number in (1, 20) for value in (0, 5)]
    return out
