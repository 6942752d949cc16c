"""Issue 5, promises 1 and 2: what clashes, and the stretches (points 10, 11 and 13)."""

import random
import unittest

from suresnap.bounds import clashes, due_cells, shut_cells, stretches, version_bounds
from suresnap.tables import possible
from tests import enumeration
from tests.drawing import any_news, drawn_news, every_piece

SHELF = ("a", "b", "c")


class Clashes(unittest.TestCase):
    def clash(self, *news, shelf=SHELF):
        """The list clashes in any order, and none of its pieces clashes alone."""
        for rows in (list(news), list(reversed(news)), list(news) * 2):
            self.assertIs(clashes(shelf, rows), True, rows)
            self.assertIs(possible(shelf, rows), False, rows)
        if len(news) > 1:
            for piece in news:
                self.assertIs(clashes(shelf, [piece]), False, piece)

    def fine(self, *news, shelf=SHELF):
        for rows in (list(news), list(reversed(news)), list(news) * 2):
            self.assertIs(clashes(shelf, rows), False, rows)

    def test_two_numbers_of_keys(self):
        self.clash(("many", 2, 1), ("many", 2, 2))
        self.clash(("many", 2, 1), ("wrote", 2, ("a", "b")))
        self.clash(("wrote", 2, ("a",)), ("many", 2, 3))
        self.fine(("many", 2, 1), ("many", 3, 2))
        self.fine(("many", 2, 2), ("wrote", 2, ("a", "b")))

    def test_two_wrotes_tell_two_numbers_and_a_cell_twice(self):
        self.clash(("wrote", 2, ("a",)), ("wrote", 2, ("a", "b")))

    def test_cell_that_is_shut_and_due(self):
        self.clash(("wrote", 1, ("a",)), ("did", 1, "b"))
        self.clash(("among", 1, ("a", "c")), ("did", 1, "b"))
        self.clash(("among", 1, ("a", "c")), ("wrote", 1, ("a", "b")))
        self.clash(("wrote", 1, ("a",)), ("wrote", 1, ("b",)))
        self.fine(("wrote", 1, ("a",)), ("did", 1, "a"), ("among", 1, ("a", "b")))
        self.fine(("wrote", 1, ("a",)), ("did", 2, "b"))
        self.fine(("among", 1, ("a",)), ("among", 1, ("b",)))

    def test_two_numbers_for_one_key_and_version(self):
        self.clash(("times", "a", 3, 1), ("times", "a", 3, 2))
        self.clash(("times", "a", 3, 0), ("times", "a", 3, 20))
        self.fine(("times", "a", 3, 1), ("times", "b", 3, 2))

    def test_two_values_for_one_write(self):
        self.clash(("value", "a", 1, 5), ("value", "a", 1, 6))
        self.clash(("value", "zz", 20, 5), ("value", "zz", 20, -5))
        self.fine(("value", "a", 1, 5), ("value", "a", 2, 6), ("value", "b", 1, 7))

    def test_key_that_is_not_on_the_shelf(self):
        self.clash(("wrote", 1, ("zz",)))
        self.clash(("wrote", 1, ("a", "zz")))
        self.clash(("among", 1, ("zz",)))
        self.clash(("among", 1, ("a", "zz")))
        self.clash(("among", 1, ("a", "b", "c", "zz")))
        self.clash(("did", 1, "zz"))
        self.clash(("times", "zz", 3, 1))
        self.clash(("times", "zz", 0, 0))
        self.fine(("value", "zz", 1, 5))

    def test_parts_of_keys_are_no_keys(self):
        shelf = ("a", "ab")
        self.clash(("did", 1, "b"), shelf=shelf)
        self.clash(("wrote", 1, ("ab",)), ("did", 1, "a"), shelf=shelf)
        self.fine(("among", 1, ("ab",)), ("did", 1, "ab"), ("did", 2, "a"), shelf=shelf)

    def test_less_often_by_a_later_version(self):
        self.clash(("times", "a", 2, 2), ("times", "a", 3, 1))
        self.clash(("times", "a", 2, 2), ("times", "a", 20, 0))
        self.fine(("times", "a", 2, 2), ("times", "a", 3, 2))
        self.fine(("times", "a", 2, 2), ("times", "b", 3, 1))

    def test_less_often_with_others_between(self):
        self.clash(("times", "a", 5, 4), ("times", "a", 10, 6), ("times", "a", 15, 3))

    def test_written_by_version_0(self):
        self.clash(("times", "a", 0, 1))
        self.clash(("times", "a", 0, 20))
        self.assertTrue(clashes(SHELF, [("times", "a", 0, 1), ("times", "a", 3, 2)]))
        self.fine(("times", "a", 0, 0))
        self.fine(("times", "a", 0, 0), ("times", "a", 1, 0))

    def test_no_clash_though_no_history_agrees(self):
        self.fine()
        for news in ([("times", "a", 2, 3)], [("many", 1, 4)], [("many", 1, 20)],
                     [("many", 1, 1), ("did", 1, "a"), ("did", 1, "b")],
                     [("many", 1, 2), ("among", 1, ("a",))],
                     [("among", 1, ("a",)), ("among", 1, ("b",))],
                     [("times", "a", 2, 0), ("times", "a", 3, 2)]):
            self.fine(*news)
            self.assertIs(possible(SHELF, news), False, news)

    def test_equal_pieces_never_clash(self):
        for piece in every_piece(("a", "b", "zz"), 3):
            alone = clashes(("a", "b"), [piece])
            self.assertIs(clashes(("a", "b"), [piece, piece]), alone, piece)
            self.assertIs(clashes(("a", "b"), [piece] * 40), alone, piece)

    def test_pairs_as_the_reference(self):
        shelf = ("a", "b")
        pieces = every_piece(("a", "b", "zz"), 2)
        answers = {True: 0, False: 0}
        for one in pieces:
            for other in pieces:
                wanted = enumeration.clashes(shelf, [one, other])
                self.assertIs(clashes(shelf, [one, other]), wanted, (one, other))
                answers[wanted] += 1
        self.assertGreater(min(answers.values()), 1000)

    def test_drawn_lists_as_the_reference(self):
        draw = random.Random(51)
        answers = {True: 0, False: 0}
        for _ in range(5000):
            shelf = SHELF[:draw.randint(1, 3)]
            news = drawn_news(draw, shelf, draw.randint(0, 6), draw.randint(1, 12))
            wanted = enumeration.clashes(shelf, news)
            self.assertIs(clashes(shelf, news), wanted, news)
            if wanted:
                self.assertIs(possible(shelf, news), False, news)
            answers[wanted] += 1
        self.assertGreater(min(answers.values()), 500)

    def test_arguments_stay_as_they_are(self):
        news = [("times", "a", 3, 1), ("wrote", 2, ("a", "b")), ("many", 2, 1)]
        clashes(SHELF, news)
        self.assertEqual(news, [("times", "a", 3, 1), ("wrote", 2, ("a", "b")), ("many", 2, 1)])


class BoundsAndCells(unittest.TestCase):
    def test_bounds_of_versions(self):
        news = [("many", 2, 3), ("wrote", 3, ("b",)), ("among", 4, ("a", "c")), ("did", 5, "a"), ("head", 6)]
        wanted = [(1, 3), (3, 3), (1, 1), (1, 3), (1, 3), (1, 3)]
        self.assertEqual(version_bounds(SHELF, news), wanted)
        self.assertEqual(version_bounds(SHELF, []), [])
        self.assertEqual(version_bounds(("a",), [("many", 1, 20)]), [(20, 20)])

    def test_shut_and_due_cells(self):
        news = [("wrote", 3, ("b",)), ("among", 4, ("a", "c")), ("did", 5, "a"), ("many", 1, 1), ("head", 6)]
        self.assertEqual(sorted(shut_cells(SHELF, news)), [(3, "a"), (3, "c"), (4, "b")])
        self.assertEqual(sorted(due_cells(news)), [(3, "b"), (5, "a")])
        self.assertEqual(sorted(shut_cells(SHELF, [("among", 1, SHELF)])), [])


class Stretches(unittest.TestCase):
    def test_no_news(self):
        self.assertEqual(stretches(SHELF, []), [])
        self.assertEqual(stretches(SHELF, [("value", "a", 3, 5), ("value", "zz", 3, 5)]), [])
        self.assertEqual(stretches(SHELF, [("head", 0)]), [])

    def test_no_times(self):
        self.assertEqual(stretches(("a", "b"), [("head", 5)]), [("a", 1, 5, 0, 5), ("b", 1, 5, 0, 5)])
        self.assertEqual(stretches(("a",), [("did", 2, "a"), ("wrote", 1, ("a",))]), [("a", 1, 2, 0, 2)])

    def test_marks_and_what_is_behind(self):
        news = [("times", "b", 4, 3), ("times", "a", 2, 1), ("times", "b", 1, 0), ("head", 6)]
        wanted = [("a", 1, 2, 1, 1), ("a", 3, 6, 0, 4), ("b", 1, 1, 0, 0), ("b", 2, 4, 3, 3), ("b", 5, 6, 0, 2)]
        self.assertEqual(stretches(("a", "b"), news), wanted)
        self.assertEqual(stretches(("a", "b"), list(reversed(news))), wanted)

    def test_mark_at_the_head(self):
        self.assertEqual(stretches(("a",), [("times", "a", 3, 2)]), [("a", 1, 3, 2, 2)])
        self.assertEqual(stretches(("a", "b"), [("times", "a", 3, 2)]), [("a", 1, 3, 2, 2), ("b", 1, 3, 0, 3)])

    def test_mark_next_to_the_head(self):
        self.assertEqual(stretches(("a",), [("times", "a", 3, 2), ("head", 4)]), [("a", 1, 3, 2, 2), ("a", 4, 4, 0, 1)])

    def test_marks_that_are_neighbours(self):
        news = [("times", "a", 1, 1), ("times", "a", 2, 1), ("times", "a", 3, 2)]
        self.assertEqual(stretches(("a",), news), [("a", 1, 1, 1, 1), ("a", 2, 2, 0, 0), ("a", 3, 3, 1, 1)])

    def test_equal_marks_are_one(self):
        news = [("times", "a", 2, 1), ("times", "a", 2, 1), ("head", 3), ("times", "a", 2, 1)]
        self.assertEqual(stretches(("a",), news), [("a", 1, 2, 1, 1), ("a", 3, 3, 0, 1)])

    def test_times_at_version_0(self):
        self.assertEqual(stretches(("a",), [("times", "a", 0, 0)]), [])
        self.assertEqual(stretches(("a",), [("times", "a", 0, 0), ("head", 2)]), [("a", 1, 2, 0, 2)])
        news = [("times", "a", 0, 0), ("times", "a", 0, 0), ("times", "a", 2, 2)]
        self.assertEqual(stretches(("a",), news), [("a", 1, 2, 2, 2)])

    def test_times_of_another_key_make_no_marks(self):
        shelf = ("a", "aa", "ab")
        news = [("times", "aa", 2, 1), ("head", 3)]
        wanted = [("a", 1, 3, 0, 3), ("aa", 1, 2, 1, 1), ("aa", 3, 3, 0, 1), ("ab", 1, 3, 0, 3)]
        self.assertEqual(stretches(shelf, news), wanted)

    def test_no_history_need_agree(self):
        self.assertEqual(stretches(("a",), [("times", "a", 2, 20)]), [("a", 1, 2, 20, 20)])
        news = [("times", "a", 1, 0), ("times", "a", 2, 5), ("many", 1, 4)]
        self.assertEqual(stretches(("a",), news), [("a", 1, 1, 0, 0), ("a", 2, 2, 5, 5)])

    def test_list_is_new(self):
        news = [("times", "a", 2, 1), ("head", 3)]
        first = stretches(("a",), news)
        first.append("more")
        self.assertEqual(stretches(("a",), news), [("a", 1, 2, 1, 1), ("a", 3, 3, 0, 1)])
        self.assertEqual(news, [("times", "a", 2, 1), ("head", 3)])

    def test_drawn_lists_as_the_reference(self):
        draw = random.Random(52)
        seen = 0
        while seen < 3000:
            shelf = SHELF[:draw.randint(1, 3)]
            kind = draw.choice((drawn_news, any_news))
            news = kind(draw, shelf, draw.choice((0, 1, 3, 8, 20)), draw.randint(0, 10))
            if not enumeration.clashes(shelf, news):
                self.assertEqual(stretches(shelf, news), enumeration.stretches(shelf, news), news)
                seen += 1

    def test_limits(self):
        shelf = ("a", "b", "c", "d", "e", "f")
        news = [("times", key, version, version // 2) for key in shelf[:4] for version in range(11, 21)]
        rows = stretches(shelf, news)
        self.assertEqual(len(news), 40)
        self.assertEqual(len(rows), 42)
        self.assertEqual(rows[:3], [("a", 1, 11, 5, 5), ("a", 12, 12, 1, 1), ("a", 13, 13, 0, 0)])
        self.assertEqual(rows[-2:], [("e", 1, 20, 0, 20), ("f", 1, 20, 0, 20)])
        self.assertIs(clashes(shelf, news), False)
        self.assertIs(clashes(shelf, news[:39] + [("times", "a", 20, 4)]), True)


if __name__ == "__main__":
    unittest.main()
