"""The tokens of a text, and a reader that takes them one after the other."""

from suresnap.errors import TextError

BLANKS = " \n"
LETTERS = "abcdefghijklmnopqrstuvwxyz"
DIGITS = "0123456789"
LONGEST_KEY = 8

WORD = "word"
NUMBER = "number"
SEPARATOR = "separator"
GLUED = "glued"
END = "end"


def end_of_run(text, start, alphabet):
    """Return the index behind the characters of an alphabet that stand in a row from start on."""
    end = start
    while end < len(text) and text[end] in alphabet:
        end += 1
    return end


def end_of_token(text, start):
    """Return the index behind the token at start, or start if no token begins there."""
    if text[start] == ";":
        return start + 1
    if text[start] in LETTERS:
        return end_of_run(text, start, LETTERS)
    digits = start + 1 if text[start] == "-" else start
    end = end_of_run(text, digits, DIGITS)
    return end if end > digits else start


def kind_of(text, start):
    """Return the kind of the token at start."""
    if text[start] == ";":
        return SEPARATOR
    # A word or number that touches the one in front of it fits nowhere, whatever it is.
    if start > 0 and text[start - 1] in LETTERS + DIGITS:
        return GLUED
    return WORD if text[start] in LETTERS else NUMBER


def scan(text):
    """Return the tokens of a text, as tuples (kind, word, place), and behind them its end."""
    tokens = []
    place = 0
    while place < len(text):
        if text[place] in BLANKS:
            place += 1
            continue
        end = end_of_token(text, place)
        if end == place:
            raise TextError(place, "unknown character")
        tokens.append((kind_of(text, place), text[place:end], place))
        place = end
    tokens.append((END, "", len(text)))
    return tokens


def number_of(word):
    """Return the number that a word of digits tells, cut to eight digits if it has more of them."""
    # A text may have thousands of digits in a row. Eight of them are beyond every range already.
    digits = word.lstrip("-0")[:8]
    size = int("0" + digits)
    return -size if word[0] == "-" else size


class Reader:
    """Takes the tokens of a text in order and keeps the place of the first number out of its range."""

    def __init__(self, tokens):
        self.tokens = tokens
        self.passed = 0
        self.beyond = None

    def sees(self, kind):
        """Return whether the next token is of this kind."""
        return self.tokens[self.passed][0] == kind

    def sees_key(self):
        """Return whether the next token can be a key."""
        return self.sees(WORD) and len(self.tokens[self.passed][1]) <= LONGEST_KEY

    def sees_word(self, choices):
        """Return whether the next token is one of these words."""
        return self.sees(WORD) and self.tokens[self.passed][1] in choices

    def take(self, fits):
        """Take the next token, which must fit, and return its word."""
        kind, word, place = self.tokens[self.passed]
        if kind == END and not fits:
            raise TextError(place, "unexpected end")
        if not fits:
            raise TextError(place, "unexpected token")
        self.passed += 1
        return word

    def take_word(self, choices):
        """Take one of these words and return it."""
        return self.take(self.sees_word(choices))

    def take_key(self):
        """Take a key and return it."""
        return self.take(self.sees_key())

    def take_keys(self):
        """Take the keys that stand in a row, at least one, and return them in order, each once."""
        keys = [self.take_key()]
        while self.sees_key():
            keys.append(self.take_key())
        return tuple(sorted(set(keys)))

    def take_number(self, least, greatest):
        """Take a number and return it; a number beyond the limits is noted."""
        place = self.tokens[self.passed][2]
        number = number_of(self.take(self.sees(NUMBER)))
        # A later token that does not fit is the earlier error, so this one can't be raised yet.
        if self.beyond is None and not least <= number <= greatest:
            self.beyond = place
        return number
