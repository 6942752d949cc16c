"""Issue 2, promise 1: texts that are read (points 4 and 15)."""

import random
import unittest

from suresnap.news import parse_news, print_news
from tests.reference import news_of


def random_text(draw, pieces):
    """A text without errors: any spaces, any order of keys, leading zeros."""
    def number(low, high):
        value = draw.randint(low, high)
        zeros = "0" * draw.choice((0, 0, 1, 5))
        minus = "-" if value < 0 or (value == 0 and draw.random() < 0.5) else ""
        return f"{minus}{zeros}{abs(value)}"

    def key():
        words = ("a", "b", "ab", "at", "by", "of", "wrote", "head", "write", "times", "abcdefgh")
        return draw.choice(words)

    def keys():
        return [key() for _ in range(draw.randint(1, 5))]

    parts = []
    for _ in range(pieces):
        parts.append(draw.choice((
            ["at", number(1, 20), "wrote", *keys()],
            ["at", number(1, 20), "many", number(1, 20)],
            ["at", number(1, 20), "among", *keys()],
            ["at", number(1, 20), "did", key()],
            ["by", number(0, 20), "times", key(), number(0, 20)],
            ["write", number(1, 20), "of", key(), number(-1000000, 1000000)],
            ["head", number(0, 20)],
        )))
    blanks = (" ", "\n", "  ", " \n ")
    edges = ("", " ", "\n\n")
    texts = []
    for part in parts:
        text = part[0]
        for word in part[1:]:
            text += draw.choice(blanks) + word
        texts.append(draw.choice(edges) + text + draw.choice(edges))
    return ";".join(texts)


class Parse(unittest.TestCase):
    def reads(self, text, news):
        self.assertEqual(parse_news(text), news)

    def test_example(self):
        self.reads("at 3 wrote b a; by 5 times a 2;write 2 of a -7",
                   [("wrote", 3, ("a", "b")), ("times", "a", 5, 2), ("value", "a", 2, -7)])

    def test_each_kind(self):
        self.reads("at 1 wrote a", [("wrote", 1, ("a",))])
        self.reads("at 2 many 3", [("many", 2, 3)])
        self.reads("at 3 among b c", [("among", 3, ("b", "c"))])
        self.reads("at 4 did d", [("did", 4, "d")])
        self.reads("by 5 times e 0", [("times", "e", 5, 0)])
        self.reads("write 6 of f 7", [("value", "f", 6, 7)])
        self.reads("head 8", [("head", 8)])

    def test_text_without_tokens(self):
        for text in ("", " ", "\n", "  \n \n"):
            self.reads(text, [])

    def test_returned_list_is_new(self):
        first = parse_news("head 1")
        first.append(("head", 2))
        self.assertEqual(parse_news("head 1"), [("head", 1)])
        parse_news("").append(("head", 2))
        self.assertEqual(parse_news(""), [])

    def test_order_and_repeated_pieces_stay(self):
        self.reads("head 2;head 1;head 2", [("head", 2), ("head", 1), ("head", 2)])

    def test_keys_are_put_in_order_each_once(self):
        self.reads("at 1 wrote c a b a c", [("wrote", 1, ("a", "b", "c"))])
        self.reads("at 1 among b b", [("among", 1, ("b",))])
        self.reads("at 1 among ab b a abc", [("among", 1, ("a", "ab", "abc", "b"))])

    def test_blanks_wherever_they_are_allowed(self):
        for text in ("head 1;at 2 did a", " head 1 ; at 2 did a ", "\nhead\n1\n;\nat\n2\ndid\na\n",
                     "head   1;\n\n  at 2\n did   a", "head 1;at 2 did a\n"):
            self.reads(text, [("head", 1), ("did", 2, "a")])

    def test_no_blank_is_needed_at_a_semicolon(self):
        self.reads("at 1 wrote a;head 3;by 2 times a 1", [("wrote", 1, ("a",)), ("head", 3), ("times", "a", 2, 1)])

    def test_leading_zeros(self):
        self.reads("at 007 many 02", [("many", 7, 2)])
        self.reads("write 01 of a -00012", [("value", "a", 1, -12)])
        self.reads("by 000 times a 00", [("times", "a", 0, 0)])
        self.reads("head " + "0" * 2900 + "20", [("head", 20)])
        self.reads("write 1 of a -" + "0" * 2900 + "1000000", [("value", "a", 1, -1000000)])

    def test_minus_zero(self):
        self.reads("head -0", [("head", 0)])
        self.reads("by -0 times a -0", [("times", "a", 0, 0)])
        self.reads("write 1 of a -0", [("value", "a", 1, 0)])
        self.reads("write 1 of a -000", [("value", "a", 1, 0)])

    def test_words_of_the_grammar_as_keys(self):
        self.reads("at 1 wrote at by write head wrote many among did times of",
                   [("wrote", 1, ("among", "at", "by", "did", "head", "many", "of", "times", "write", "wrote"))])
        self.reads("at 1 did did", [("did", 1, "did")])
        self.reads("by 1 times times 1", [("times", "times", 1, 1)])
        self.reads("write 1 of of 1", [("value", "of", 1, 1)])
        self.reads("at 1 among among", [("among", 1, ("among",))])
        self.reads("at 1 wrote wrote;at 1 did at", [("wrote", 1, ("wrote",)), ("did", 1, "at")])

    def test_edges_of_the_ranges(self):
        self.reads("at 1 many 1;at 20 many 20", [("many", 1, 1), ("many", 20, 20)])
        self.reads("at 1 did a;at 20 did a", [("did", 1, "a"), ("did", 20, "a")])
        self.reads("by 0 times a 0;by 20 times a 20", [("times", "a", 0, 0), ("times", "a", 20, 20)])
        self.reads("write 1 of a -1000000;write 20 of a 1000000",
                   [("value", "a", 1, -1000000), ("value", "a", 20, 1000000)])
        self.reads("head 0;head 20", [("head", 0), ("head", 20)])

    def test_keys_of_one_and_eight_letters(self):
        self.reads("at 1 wrote z abcdefgh", [("wrote", 1, ("abcdefgh", "z"))])
        self.reads("at 1 did abcdefgh", [("did", 1, "abcdefgh")])
        self.reads("by 1 times abcdefgh 1", [("times", "abcdefgh", 1, 1)])
        self.reads("write 1 of abcdefgh 1", [("value", "abcdefgh", 1, 1)])

    def test_forty_pieces(self):
        self.reads(";".join(["head 1"] * 40), [("head", 1)] * 40)
        self.reads(" \n" + " ; ".join(["at 1 wrote a b"] * 40), [("wrote", 1, ("a", "b"))] * 40)

    def test_as_the_reference(self):
        draw = random.Random(1)
        for _ in range(600):
            text = random_text(draw, draw.randint(1, 6))
            self.reads(text, news_of(text))


class Print(unittest.TestCase):
    def test_example(self):
        self.assertEqual(print_news([("head", 4), ("many", 2, 1)]), "head 4; at 2 many 1")

    def test_each_kind(self):
        for piece, text in (
            (("wrote", 1, ("a",)), "at 1 wrote a"),
            (("wrote", 20, ("a", "b", "cd")), "at 20 wrote a b cd"),
            (("many", 2, 3), "at 2 many 3"),
            (("among", 3, ("b", "c")), "at 3 among b c"),
            (("did", 4, "d"), "at 4 did d"),
            (("times", "e", 5, 0), "by 5 times e 0"),
            (("value", "f", 6, -7), "write 6 of f -7"),
            (("value", "f", 6, 0), "write 6 of f 0"),
            (("head", 0), "head 0"),
        ):
            self.assertEqual(print_news([piece]), text)

    def test_empty_list(self):
        self.assertEqual(print_news([]), "")

    def test_news_that_no_history_agrees_with(self):
        news = [("wrote", 1, ("a",)), ("wrote", 1, ("b",)), ("head", 0)]
        self.assertEqual(print_news(news), "at 1 wrote a; at 1 wrote b; head 0")

    def test_canonical_form_of_texts(self):
        for text, canonical in (
            ("at 3 wrote b a b;by 05 times a 2\n;  write 2 of a -07",
             "at 3 wrote a b; by 5 times a 2; write 2 of a -7"),
            ("write 1 of a -0;head -0", "write 1 of a 0; head 0"),
            (" \n ", ""),
        ):
            self.assertEqual(print_news(parse_news(text)), canonical)

    def test_argument_stays_as_it_is(self):
        news = [("wrote", 3, ("a", "b")), ("head", 4)]
        print_news(news)
        self.assertEqual(news, [("wrote", 3, ("a", "b")), ("head", 4)])

    def test_read_back_as_the_same_list(self):
        draw = random.Random(2)
        for many in [40] * 10 + [1, 2, 3, 5] * 60:
            news = parse_news(random_text(draw, many))
            text = print_news(news)
            self.assertEqual(parse_news(text), news)
            self.assertEqual(print_news(parse_news(text)), text)


if __name__ == "__main__":
    unittest.main()
