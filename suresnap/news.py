"""Pieces of news: what they name, how their texts are read and told."""

from suresnap.errors import TextError
from suresnap.tokens import END, SEPARATOR, Reader, scan

LAST_VERSION = 20
MOST_WRITES = 20
FARTHEST_VALUE = 1000000
MOST_PIECES = 40


def version_of(piece):
    """Return the version that stands in a piece, None for value, which has none."""
    if piece[0] == "value":
        return None
    if piece[0] == "times":
        return piece[2]
    return piece[1]


def shelf_keys(piece):
    """Return the tuple of the keys that must be on a shelf for a piece to be true."""
    if piece[0] in ("wrote", "among"):
        return piece[2]
    if piece[0] == "did":
        return (piece[2],)
    if piece[0] == "times":
        return (piece[1],)
    # News value may name any key: a write that is not there makes it no less true.
    return ()


def read_commit(reader):
    """Read what follows "at"."""
    version = reader.take_number(1, LAST_VERSION)
    word = reader.take_word(("wrote", "many", "among", "did"))
    if word == "many":
        return (word, version, reader.take_number(1, MOST_WRITES))
    if word == "did":
        return (word, version, reader.take_key())
    return (word, version, reader.take_keys())


def read_times(reader):
    """Read what follows "by"."""
    version = reader.take_number(0, LAST_VERSION)
    word = reader.take_word(("times",))
    key = reader.take_key()
    return (word, key, version, reader.take_number(0, MOST_WRITES))


def read_value(reader):
    """Read what follows "write"."""
    number = reader.take_number(1, MOST_WRITES)
    reader.take_word(("of",))
    key = reader.take_key()
    return ("value", key, number, reader.take_number(-FARTHEST_VALUE, FARTHEST_VALUE))


def read_piece(reader):
    """Read one piece."""
    word = reader.take_word(("at", "by", "write", "head"))
    if word == "at":
        return read_commit(reader)
    if word == "by":
        return read_times(reader)
    if word == "write":
        return read_value(reader)
    return (word, reader.take_number(0, LAST_VERSION))


def read_pieces(reader):
    """Read all pieces up to the end."""
    if reader.sees(END):
        return []
    news = [read_piece(reader)]
    while not reader.sees(END):
        reader.take(reader.sees(SEPARATOR))
        news.append(read_piece(reader))
    return news


def parse_news(text):
    """Return the list of news whose text it is."""
    tokens = scan(text)
    reader = Reader(tokens)
    news = read_pieces(reader)
    if reader.beyond is not None:
        raise TextError(reader.beyond, "number out of range")
    if len(news) > MOST_PIECES:
        raise TextError(tokens[0][2], "too many pieces")
    return news


def print_piece(piece):
    """Return the canonical text of one piece."""
    if piece[0] in ("wrote", "among"):
        word, version, keys = piece
        return f"at {version} {word} " + " ".join(keys)
    if piece[0] in ("many", "did"):
        word, version, what = piece
        return f"at {version} {word} {what}"
    if piece[0] == "times":
        word, key, version, number = piece
        return f"by {version} {word} {key} {number}"
    if piece[0] == "value":
        _, key, number, value = piece
        return f"write {number} of {key} {value}"
    word, version = piece
    return f"{word} {version}"


def print_news(news):
    """Return the canonical text of a list of news."""
    return "; ".join([print_piece(piece) for piece in news])
