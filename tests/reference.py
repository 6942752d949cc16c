"""Slow second ways to the same answers, written apart from the program and only for its tests."""

import re

TOKEN = re.compile(r"[a-z]+|-?[0-9]+|;")
BIG = 1000000
# A number in a form is its range, "key" one key, "keys" one key or more.
FORMS = (
    ("at", (1, 20), "wrote", "keys"),
    ("at", (1, 20), "many", (1, 20)),
    ("at", (1, 20), "among", "keys"),
    ("at", (1, 20), "did", "key"),
    ("by", (0, 20), "times", "key", (0, 20)),
    ("write", (1, 20), "of", "key", (-BIG, BIG)),
    ("head", (0, 20)),
)


def split(text):
    """Return (tokens, place of the first unknown character or None)."""
    tokens = []
    place = 0
    while place < len(text):
        if text[place] in " \n":
            place += 1
            continue
        found = TOKEN.match(text, place)
        if found is None:
            return tokens, place
        tokens.append((place, found.group()))
        place = found.end()
    return tokens, None


def fits(slot, word):
    if isinstance(slot, tuple):
        return word[-1].isdigit()
    if slot in ("key", "keys"):
        return word.isalpha() and len(word) <= 8
    return word == slot


def step(states, word):
    """States are (form, slots filled); return those that one more token leads to, with its range."""
    after = []
    for form, filled in states:
        if word == ";":
            if filled == len(form):
                after += [(other, 0) for other in FORMS]
            continue
        if filled < len(form) and fits(form[filled], word):
            after.append((form, filled + 1))
        if filled == len(form) and form[-1] == "keys" and fits("keys", word):
            after.append((form, filled))
    return list(dict.fromkeys(after))


def error_of(text):
    """Return (place, message) of the error that a text has, None if it has none."""
    tokens, unknown = split(text)
    if unknown is not None:
        return unknown, "unknown character"
    states = [(form, 0) for form in FORMS]
    beyond = None
    behind = None
    for place, word in tokens:
        touching = behind == place and word != ";" and text[place - 1] != ";"
        states = [] if touching else step(states, word)
        if not states:
            return place, "unexpected token"
        behind = place + len(word)
        if word[-1].isdigit() and beyond is None:
            ranges = [form[filled - 1] for form, filled in states]
            if all(not low <= int(word) <= high for low, high in ranges):
                beyond = place
    if tokens and not any(filled == len(form) for form, filled in states):
        return len(text), "unexpected end"
    if beyond is not None:
        return beyond, "number out of range"
    if [word for _, word in tokens].count(";") >= 40:
        return tokens[0][0], "too many pieces"
    return None


def news_of(text):
    """Return the list of news of a text that has no error."""
    news = []
    for part in re.findall(r"[^;]+", text):
        words = part.split()
        if not words:
            continue
        if words[0] == "at":
            told = words[3:]
            if words[2] in ("wrote", "among"):
                what = tuple(sorted(dict.fromkeys(told)))
            else:
                what = int(told[0]) if words[2] == "many" else told[0]
            news.append((words[2], int(words[1]), what))
        elif words[0] == "by":
            news.append(("times", words[3], int(words[1]), int(words[4])))
        elif words[0] == "write":
            news.append(("value", words[3], int(words[1]), int(words[4])))
        else:
            news.append(("head", int(words[1])))
    return news


def walk(history, keys):
    """Return for each version from 0 on a dict of each key's (times, value), and the writes in order."""
    now = {key: (0, 0) for key in keys}
    moments = [dict(now)]
    writes = {}
    for commit in history:
        for key, value in commit:
            times = now.get(key, (0, 0))[0] + 1
            now[key] = (times, value)
            writes[key, times] = value
        moments.append(dict(now))
    return moments, writes


def piece_holds(shelf, history, piece):
    """Whether one piece is true of a history that has the version of the piece."""
    kind = piece[0]
    moments, writes = walk(history, shelf)
    if kind == "value":
        return writes.get((piece[1], piece[2]), piece[3]) == piece[3]
    if kind == "head":
        return piece[1] < len(moments)
    if kind == "times":
        return piece[1] in shelf and moments[piece[2]][piece[1]][0] == piece[3]
    wrote = {pair[0] for pair in history[piece[1] - 1]}
    if kind == "many":
        return len(wrote) == piece[2]
    if kind == "did":
        return piece[2] in shelf and piece[2] in wrote
    if not set(piece[2]) <= set(shelf):
        return False
    return wrote == set(piece[2]) if kind == "wrote" else wrote <= set(piece[2])


def is_history(shelf, history):
    for commit in history:
        names = "".join(f"{shelf.index(key)}" if key in shelf else "x" for key, _ in commit)
        if names == "" or "x" in names or any(a >= b for a, b in zip(names, names[1:])):
            return False
    return True


def head_of(news):
    places = {"times": 2}
    return max([0] + [piece[places.get(piece[0], 1)] for piece in news if piece[0] != "value"])


def agrees(shelf, history, news):
    values = [piece for piece in news if piece[0] == "value"]
    quarrel = any(a[:3] == b[:3] and a[3] != b[3] for a in values for b in values)
    if not is_history(shelf, history) or len(history) != head_of(news) or quarrel:
        return False
    return all(piece_holds(shelf, history, piece) for piece in news)
