"""Issue 2, promise 2: the errors of texts (point 16)."""

import random
import unittest

from suresnap.errors import SnapError, TextError
from suresnap.news import parse_news
from tests.reference import error_of, news_of
from tests.test_parse import random_text

UNKNOWN = "unknown character"
TOKEN = "unexpected token"
END = "unexpected end"
RANGE = "number out of range"
MANY = "too many pieces"


def outcome(text):
    """The error of a text as (place, message), or None."""
    try:
        parse_news(text)
    except TextError as error:
        return error.place, error.message
    return None


class Base(unittest.TestCase):
    def fails(self, text, place, message):
        self.assertEqual(outcome(text), (place, message), repr(text))
        self.assertEqual(error_of(text), (place, message), repr(text))


class UnknownCharacter(Base):
    def test_first_such_character(self):
        for text, place in (("A", 0), ("head 1.", 6), ("head\t1", 4), ("at 1 wrote aB", 12), ("head 1; #", 8),
                            ("head 1, head 2; ?", 6), ("head +1", 5), ("head 1_0", 6), ("~", 0), ("head \r1", 5)):
            self.fails(text, place, UNKNOWN)

    def test_minus_without_a_digit_behind_it(self):
        for text, place in (("-", 0), ("head -", 5), ("head - 1", 5), ("head -a", 5), ("head --1", 5),
                            ("head 1-", 6), ("head-", 4), ("head -;", 5), ("head -\n1", 5), ("write 1 of a- 2", 12)):
            self.fails(text, place, UNKNOWN)

    def test_signs_that_other_programs_count_as_letters_and_digits(self):
        for text, place in (("head \u0663", 5), ("at 1 did \u00e9", 9), ("head \u00b2", 5), ("\u00a0head 1", 0)):
            self.fails(text, place, UNKNOWN)


class UnexpectedToken(Base):
    def test_at_each_place_of_a_piece(self):
        for text, place in (
            ("3", 0), ("a", 0), ("wrote", 0), (";", 0), ("at at", 3), ("at wrote", 3), ("at ;", 3),
            ("at 1 times", 5), ("at 1 2", 5), ("at 1;", 4), ("at 1 a", 5), ("at 1 wrote 2", 11), ("at 1 wrote;", 10),
            ("at 1 wrote a 2", 13), ("at 1 many a", 10), ("at 1 many;", 9), ("at 1 many 1 a", 12),
            ("at 1 many 1 2", 12), ("at 1 among 3", 11), ("at 1 among a 3", 13), ("at 1 did 3", 9),
            ("at 1 did a b", 11), ("at 1 did a 1", 11), ("by a", 3), ("by 1 a", 5), ("by 1 many", 5),
            ("by 1 times 1", 11), ("by 1 times a b", 13), ("by 1 times a;", 12), ("by 1 times a 1 b", 15),
            ("by 1 times a 1 1", 15), ("write a", 6), ("write 1 a", 8), ("write 1 of 1", 11), ("write 1 of a b", 13),
            ("write 1 of a 1 1", 15), ("write 1 of a 1 a", 15), ("head a", 5), ("head;", 4), ("head 1 1", 7),
            ("head 1 at", 7), ("head 1 head 2", 7),
        ):
            self.fails(text, place, TOKEN)

    def test_semicolon_at_the_beginning_and_twice(self):
        self.fails(";head 1", 0, TOKEN)
        self.fails(" \n ;", 3, TOKEN)
        self.fails("head 1;;head 2", 7, TOKEN)
        self.fails("head 1; ;", 8, TOKEN)
        self.fails("at 1 wrote a;;", 13, TOKEN)

    def test_words_of_nine_letters(self):
        self.fails("at 1 did abcdefghi", 9, TOKEN)
        self.fails("at 1 wrote abcdefghi", 11, TOKEN)
        self.fails("at 1 wrote a abcdefgh abcdefghi b", 22, TOKEN)
        self.fails("at 1 among abcdefgh abcdefghi", 20, TOKEN)
        self.fails("by 1 times abcdefghi 1", 11, TOKEN)
        self.fails("write 1 of abcdefghi 1", 11, TOKEN)
        self.fails("abcdefghi", 0, TOKEN)

    def test_directly_behind_a_word_or_number(self):
        self.fails("at1 did a", 2, TOKEN)
        self.fails("at 1did a", 4, TOKEN)
        self.fails("by 1 times a1", 12, TOKEN)
        self.fails("by 1 times a 1b", 14, TOKEN)
        self.fails("head1", 4, TOKEN)
        self.fails("at 1 many2", 9, TOKEN)

    def test_minus_directly_behind_a_word_or_number(self):
        self.fails("write 1 of a-7", 12, TOKEN)
        self.fails("head-0", 4, TOKEN)
        self.fails("head 1-1", 6, TOKEN)
        self.fails("write 1 of a 5-7", 14, TOKEN)
        self.fails("head 1;-1", 7, TOKEN)

    def test_place_is_that_of_the_minus(self):
        self.fails("at 1 did -7", 9, TOKEN)

    def test_numbers_do_not_matter(self):
        self.fails("at 99 many -5 a", 14, TOKEN)


class UnexpectedEnd(Base):
    def test_behind_each_beginning(self):
        for text in ("at", "at 1", "at 1 wrote", "at 1 many", "at 1 among", "at 1 did", "by", "by 1", "by 1 times",
                     "by 1 times a", "write", "write 1", "write 1 of", "write 1 of a", "head", "head 1;at 1"):
            self.fails(text, len(text), END)

    def test_semicolon_at_the_end(self):
        self.fails("head 1;", 7, END)
        self.fails("at 1 wrote a ; \n", 16, END)

    def test_place_is_the_length_of_the_text(self):
        self.fails("head \n  ", 8, END)


class NumberOutOfRange(Base):
    def test_one_beyond_each_edge(self):
        for text, place in (
            ("at 0 many 1", 3), ("at 21 many 1", 3), ("at 0 wrote a", 3), ("at 21 among a", 3), ("at 0 did a", 3),
            ("at -0 did a", 3), ("at 1 many 0", 10), ("at 1 many 21", 10), ("by -1 times a 0", 3),
            ("by 21 times a 0", 3), ("by 1 times a -1", 13), ("by 1 times a 21", 13), ("write 0 of a 1", 6),
            ("write 21 of a 1", 6), ("write 1 of a 1000001", 13), ("write 1 of a -1000001", 13), ("head -1", 5),
            ("head 21", 5), ("head 0021", 5),
        ):
            self.fails(text, place, RANGE)

    def test_first_such_number(self):
        self.fails("head 20; at 21 many 0; head 99", 12, RANGE)
        self.fails("at 1 many 21; at 0 many 1", 10, RANGE)

    def test_numbers_of_thousands_of_digits(self):
        for digits in (8, 9, 400, 2900):
            for first in "19":
                self.fails("head " + first + "0" * digits, 5, RANGE)
                self.fails("write 1 of a -" + first + "0" * digits, 13, RANGE)
        text = "head " + "7" * 6000
        self.assertEqual(outcome(text), (5, RANGE))


class TooManyPieces(Base):
    def test_forty_one(self):
        self.fails(";".join(["head 1"] * 41), 0, MANY)
        self.fails("\n  " + " ; ".join(["at 1 wrote a b"] * 41), 3, MANY)
        self.fails(";".join(["head 1"] * 300), 0, MANY)

    def test_forty_are_read(self):
        self.assertIsNone(outcome(";".join(["head 1"] * 40)))


class Order(Base):
    def test_earlier_in_the_list_though_later_in_the_text(self):
        self.fails("; head 99 #", 10, UNKNOWN)
        self.fails("at ? 1 1 A", 3, UNKNOWN)
        self.fails("head 1; -", 8, UNKNOWN)
        self.fails("at 0 many 0 #", 12, UNKNOWN)
        self.fails("at 1 did !", 9, UNKNOWN)
        self.fails("at 0 many 0;;", 12, TOKEN)
        self.fails("head 99; head 1 1; head", 16, TOKEN)
        self.fails("head 99;", 8, END)
        self.fails("at 0", 4, END)

    def test_with_too_many_pieces(self):
        many = ";".join(["head 1"] * 41)
        self.fails(many + ";", len(many) + 1, END)
        self.fails(many + "; head 21", len(many) + 7, RANGE)
        self.fails(many + " 1", len(many) + 1, TOKEN)
        self.fails(many + " $", len(many) + 1, UNKNOWN)
        self.fails(many + ";;", len(many) + 1, TOKEN)


class Raised(unittest.TestCase):
    def test_error_is_told_whole(self):
        with self.assertRaises(TextError) as caught:
            parse_news("head 1;;")
        self.assertEqual(str(caught.exception), "unexpected token at 7")
        self.assertIsInstance(caught.exception, SnapError)

    def test_as_the_reference(self):
        draw = random.Random(3)
        words = ["at", "by", "write", "head", "wrote", "many", "among", "did", "times", "of", "a", "abcdefghi", ";",
                 "0", "1", "20", "21", "-1", "-0", "1000000", "-1000001", "#", "-", " ", "\n"]
        seen = {}
        for _ in range(6000):
            text = random_text(draw, draw.choice((1, 1, 2, 3, 40, 41)) if draw.random() < 0.3 else 2)
            for _ in range(draw.randint(0, 2)):
                at = draw.randint(0, len(text))
                cut = draw.choice((0, 0, 1, 2, 5))
                put = draw.choice(("", "", draw.choice(words), " " + draw.choice(words) + " "))
                text = text[:at] + put + text[at + cut:]
            wanted = error_of(text)
            self.assertEqual(outcome(text), wanted, repr(text))
            if wanted is None:
                self.assertEqual(parse_news(text), news_of(text), repr(text))
            message = wanted[1] if wanted else None
            seen[message] = seen.get(message, 0) + 1
        self.assertEqual(set(seen), {None, UNKNOWN, TOKEN, END, RANGE, MANY})
        self.assertTrue(all(times > 20 for times in seen.values()), seen)

    def test_short_rows_of_tokens_as_the_reference(self):
        words = ["at", "by", "write", "head", "wrote", "many", "times", "of", "1", ";", "0"]
        rows = [[]]
        for _ in range(4):
            rows = [row + [word] for row in rows for word in words if not row or error_of(" ".join(row)) is None
                    or error_of(" ".join(row))[1] != TOKEN]
            for row in rows:
                for text in (" ".join(row), "".join(row)):
                    self.assertEqual(outcome(text), error_of(text), repr(text))


if __name__ == "__main__":
    unittest.main()
