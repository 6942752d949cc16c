"""Lists of news drawn for the tests: true of a table of commits, bent, or as they come."""

import itertools



def some_keys(draw, keys):
    return tuple(key for key in keys if draw.random() < 0.5) or (draw.choice(keys),)


def a_table(draw, shelf, versions):
    """One tuple of keys for each version."""
    return [some_keys(draw, shelf) for _ in range(versions)]


def true_piece(draw, shelf, table):
    """One piece that is true of a table."""
    words = ["times", "times", "value", "head"] + ["wrote", "many", "among", "did"] * bool(table)
    word = draw.choice(words)
    key = draw.choice(shelf)
    if word == "head":
        return (word, draw.randint(0, len(table)))
    if word == "times":
        version = draw.randint(0, len(table))
        return (word, key, version, sum(key in commit for commit in table[:version]))
    if word == "value":
        # The value hangs on the write, so that no two of these differ.
        key, number = draw.choice((key, key, "zz")), draw.choice((1, 1, 2, 3, 20))
        return (word, key, number, number * 10 - len(key))
    version = draw.randint(1, len(table))
    wrote = table[version - 1]
    if word == "wrote":
        return (word, version, wrote)
    if word == "many":
        return (word, version, len(wrote))
    if word == "did":
        return (word, version, draw.choice(wrote))
    return (word, version, tuple(other for other in shelf if other in wrote or draw.random() < 0.4))


def any_piece(draw, shelf, versions, strange=0.03):
    """One piece about some keys and versions, true of a table or not."""
    names = shelf + ("zz",) if draw.random() < strange else shelf
    key = draw.choice(names)
    word = draw.choice(("wrote", "many", "among", "did", "times", "times", "value", "head"))
    if word == "times":
        return (word, key, draw.randint(0, versions), draw.randint(0, versions + 1))
    if word == "value":
        return (word, key, draw.choice((1, 2, 20)), draw.choice((3, 4)))
    if word == "head" or versions == 0:
        return ("head", draw.randint(0, versions))
    version = draw.randint(1, versions)
    if word == "many":
        return (word, version, draw.randint(1, len(shelf) + (draw.random() < 0.1)))
    if word == "did":
        return (word, version, key)
    return (word, version, some_keys(draw, names))


def true_news(draw, shelf, versions, pieces):
    """A list of news that is true of one table with this number of versions, which it tells."""
    table = a_table(draw, shelf, versions)
    return [("head", versions)] + [true_piece(draw, shelf, table) for _ in range(pieces - 1)]


def bent_news(draw, shelf, versions, pieces):
    """A true list of news with one or two other pieces in it."""
    news = true_news(draw, shelf, versions, pieces)
    for _ in range(draw.randint(1, 2)):
        news[draw.randrange(len(news))] = any_piece(draw, shelf, versions)
    return news


def any_news(draw, shelf, versions, pieces):
    return [any_piece(draw, shelf, versions) for _ in range(pieces)]


def drawn_news(draw, shelf, versions, pieces):
    """A list of news of one of the three kinds; its pieces stand in any order, some of them twice."""
    kind = draw.choice((true_news, true_news, bent_news, bent_news, any_news))
    news = kind(draw, shelf, versions, pieces)
    # Without its head, news may end before the table that it was drawn from.
    news = news[draw.randint(0, 1):]
    news += [piece for piece in news if draw.random() < 0.1]
    draw.shuffle(news)
    return news


def every_piece(names, versions):
    """All pieces about these keys and versions, with a few numbers of many and a few values."""
    sets = [keys for size in range(1, len(names) + 1) for keys in itertools.combinations(names, size)]
    out = [("head", version) for version in range(versions + 1)]
    out += [("times", key, version, number)
            for key in names for version in range(versions + 1) for number in range(versions + 2)]
    for version in range(1, versions + 1):
        out += [(word, version, keys) for word in ("wrote", "among") for keys in sets]
        out += [("many", version, number) for number in range(1, len(names) + 1)]
        out += [("did", version, key) for key in names]
    out += [("value", key, number, value) for key in names for number in (1, 20) for value in (0, 5)]
    return out
