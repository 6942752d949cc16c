"""Issue 8, promises 3 and 4: papers that show that no history agrees, and which are right (points 10 to 13)."""

import unittest

from suresnap.papers import is_right, paper
from suresnap.tables import possible
from tests.enumeration import is_in_form, says_so

SHELF = ("a", "b", "c")
A, B, C = ("a", 1, 1), ("b", 1, 1), ("c", 1, 1)


class Papers(unittest.TestCase):
    def fails(self, *news, shelf=SHELF):
        """There is no history of the list in any order, and a right paper about it."""
        for rows in (list(news), list(reversed(news)), list(news) * 2):
            copy = list(rows)
            found = paper(shelf, rows)
            self.assertFalse(possible(shelf, rows), rows)
            self.assertTrue(is_in_form(shelf, rows, found), (rows, found))
            self.assertTrue(says_so(shelf, rows, found), (rows, found))
            self.assertIs(is_right(shelf, rows, found), True, (rows, found))
            self.assertEqual(rows, copy)

    def none(self, *news, shelf=SHELF):
        for rows in (list(news), list(reversed(news)), list(news) * 2):
            self.assertIsNone(paper(shelf, rows), rows)

    def test_a_history_agrees(self):
        self.none()
        self.none(("head", 0))
        self.none(("head", 20))
        self.none(("value", "a", 1, 5))
        self.none(("value", "zz", 1, 5), ("head", 1))
        self.none(("times", "a", 0, 0))
        self.none(("many", 1, 3), ("did", 1, "a"), ("times", "b", 1, 1))

    def test_news_that_clashes(self):
        self.none(("many", 1, 1), ("many", 1, 2))
        self.none(("many", 1, 1), ("wrote", 1, ("a", "b")))
        self.none(("wrote", 1, ("a",)), ("did", 1, "b"))
        self.none(("times", "a", 2, 1), ("times", "a", 2, 2))
        self.none(("times", "a", 2, 1), ("times", "a", 3, 0))
        self.none(("times", "a", 0, 1))
        self.none(("value", "a", 1, 1), ("value", "a", 1, 2))
        self.none(("value", "zz", 1, 1), ("value", "zz", 1, 2))
        self.none(("did", 1, "zz"))
        self.none(("among", 1, ("a", "zz")))
        # It clashes, and there would be a right paper about the rest of it.
        self.none(("many", 1, 1), ("many", 1, 2), ("times", "a", 1, 5))
        self.none(("times", "a", 2, 3), ("did", 1, "zz"))

    def test_versions_that_cannot_place_their_writes(self):
        self.fails(("many", 1, 4))
        self.fails(("many", 1, 20))
        self.fails(("many", 2, 3), ("times", "a", 2, 0))
        self.fails(("many", 1, 2), ("many", 2, 2), ("times", "a", 2, 0), ("times", "b", 2, 1))
        self.fails(("among", 1, ("a",)), ("among", 1, ("b",)))
        self.fails(("times", "a", 4, 1), ("times", "b", 4, 1), ("times", "c", 4, 1))
        self.fails(("times", "a", 1, 0), shelf=("a",))

    def test_stretches_that_cannot_get_theirs(self):
        self.fails(("times", "a", 3, 4))
        self.fails(("times", "a", 2, 1), ("times", "a", 4, 4))
        self.fails(("times", "a", 2, 2), ("wrote", 2, ("b",)))
        self.fails(("times", "a", 2, 2), ("many", 1, 1), ("did", 1, "b"))
        self.fails(("times", "a", 2, 2), ("times", "b", 2, 2), ("many", 1, 1))

    def test_due_cells(self):
        self.fails(("did", 1, "a"), ("did", 2, "a"), ("times", "a", 2, 1))
        self.fails(("did", 1, "a"), ("did", 2, "a"), ("times", "a", 3, 1))
        self.fails(("many", 1, 1), ("did", 1, "a"), ("did", 1, "b"))
        self.fails(("wrote", 1, ("a", "b")), ("times", "a", 2, 0))

    def test_in_the_stretch_behind_the_last_mark(self):
        self.fails(("times", "a", 2, 1), ("among", 3, ("b",)), ("many", 3, 2))
        self.fails(("times", "a", 2, 1), ("times", "b", 5, 0), ("times", "c", 5, 0), ("among", 4, ("b",)))

    def test_lists_are_new(self):
        news = [("many", 1, 4)]
        self.assertEqual(paper(SHELF, news), paper(SHELF, news))
        self.assertEqual(news, [("many", 1, 4)])

    def test_beyond_the_limits(self):
        self.assertIsNone(paper(SHELF, [("head", 25)]))
        self.fails(("times", "a", 25, 26))
        self.fails(("many", 23, 9), ("head", 24))
        self.fails(("times", "verylongkey", 2, 3), shelf=SHELF + ("d", "e", "f", "verylongkey"))


class IsRight(unittest.TestCase):
    def right(self, news, *papers, shelf=SHELF):
        for one in papers:
            self.assertIs(is_right(shelf, news, one), True, (news, one))
            self.assertIs(is_right(shelf, news[::-1] * 2, one), True, (news, one))

    def wrong(self, news, *papers, shelf=SHELF):
        for one in papers:
            self.assertIs(is_right(shelf, news, one), False, (news, one))
            self.assertIs(is_right(shelf, news[::-1] * 2, one), False, (news, one))

    def test_full(self):
        news = [("many", 1, 2), ("times", "a", 1, 0), ("times", "b", 1, 0)]
        self.right(news, ("full", (1,), (A, B)), ("full", (1,), (A, B, C)))
        # The cell of b is open and outside then, and 2 is not greater than 2.
        self.wrong(news, ("full", (1,), (A,)), ("full", (1,), (A, C)), ("full", (1,), ()))
        self.wrong(news, ("full", (), (A, B)), ("empty", (1,), (A, B)))

    def test_empty(self):
        news = [("many", 1, 1), ("times", "a", 1, 1), ("times", "b", 1, 1)]
        self.right(news, ("empty", (1,), (A, B)))
        self.wrong(news, ("empty", (1,), (A,)), ("empty", (), (A, B)), ("empty", (1,), ()), ("full", (1,), (A, B)))
        # The stretch of c adds nothing, neither to the one side nor to the other.
        self.right(news, ("empty", (1,), (A, B, C)))

    def test_full_counts_due_cells_of_other_versions_in_its_stretches(self):
        news = [("did", 1, "a"), ("many", 2, 3), ("times", "a", 3, 1)]
        self.right(news, ("full", (2,), (("a", 1, 3),)))
        self.wrong(news, ("full", (1, 2), (("a", 1, 3),)), ("full", (1,), (("a", 1, 3),)))
        self.wrong(news[1:], ("full", (2,), (("a", 1, 3),)))
        self.wrong([("did", 1, "b")] + news[1:], ("full", (2,), (("a", 1, 3),)))

    def test_empty_counts_due_cells_of_its_versions_outside_of_its_stretches(self):
        news = [("many", 1, 1), ("did", 1, "b"), ("times", "a", 1, 1)]
        self.right(news, ("empty", (1,), (A,)))
        self.wrong(news, ("empty", (1,), (A, B)), ("empty", (1,), (B,)))
        self.wrong(news[::2], ("empty", (1,), (A,)))

    def test_shut_cells_are_not_open(self):
        news = [("many", 1, 2), ("among", 1, ("a",))]
        self.right(news, ("full", (1,), ()))
        self.wrong(news[:1], ("full", (1,), ()))
        news = [("times", "a", 2, 2), ("among", 2, ("b", "c"))]
        self.right(news, ("empty", (), (("a", 1, 2),)))
        self.wrong(news[:1], ("empty", (), (("a", 1, 2),)))

    def test_due_cells_are_open(self):
        self.wrong([("wrote", 1, ("a",))], ("full", (1,), ()))
        self.wrong([("did", 1, "a"), ("many", 1, 3)], ("full", (1,), ()))
        self.wrong([("did", 1, "a"), ("times", "a", 1, 1)], ("empty", (), (A,)))

    def test_no_versions(self):
        news = [("did", 1, "a"), ("did", 3, "a"), ("times", "a", 3, 1)]
        self.right(news, ("full", (), (("a", 1, 3),)))
        self.wrong(news[1:], ("full", (), (("a", 1, 3),)))
        self.right([("times", "a", 3, 4)], ("empty", (), (("a", 1, 3),)))
        self.wrong([("times", "a", 3, 3)], ("empty", (), (("a", 1, 3),)))

    def test_no_stretches(self):
        self.right([("many", 1, 4)], ("full", (1,), ()))
        self.wrong([("many", 1, 3)], ("full", (1,), ()))
        self.right([("many", 2, 1), ("did", 2, "a"), ("did", 2, "b")], ("empty", (2,), ()))
        self.wrong([("many", 2, 1), ("did", 2, "a"), ("did", 1, "b")], ("empty", (2,), ()), ("empty", (1, 2), ()))

    def test_neither_versions_nor_stretches(self):
        for news in ([], [("head", 3)], [("many", 1, 4)], [("times", "a", 1, 5)]):
            self.wrong(news, ("full", (), ()), ("empty", (), ()))

    def test_least_and_greatest_number_of_a_version_without_many(self):
        # The least number is 1, and the greatest one is that of the keys of the shelf.
        news = [("times", "a", 1, 0), ("times", "b", 1, 0), ("times", "c", 1, 0)]
        self.right(news, ("full", (1,), (A, B, C)))
        self.wrong(news, ("full", (1,), (A, B)))
        news = [("times", "a", 1, 2), ("times", "b", 1, 1), ("times", "c", 1, 1)]
        self.right(news, ("empty", (1,), (A, B, C)))
        self.wrong(news, ("empty", (1,), (A, B)), ("empty", (1,), (A, C)), ("empty", (1,), (B, C)))

    def test_least_and_greatest_number_of_the_last_stretch(self):
        news = [("many", 2, 3), ("times", "a", 1, 1), ("many", 3, 20)]
        self.right(news, ("full", (3,), ()), ("full", (2, 3), ()))
        self.right(news, ("full", (3,), (A,)), ("full", (3,), (("a", 2, 3),)))
        self.wrong(news[:2] + [("head", 3)], ("full", (2,), (("a", 2, 3),)), ("empty", (), (("a", 2, 3),)))

    def test_several_stretches_of_a_key(self):
        news = [("times", "a", 2, 1), ("times", "a", 3, 1), ("times", "a", 4, 3), ("many", 3, 3)]
        self.right(news, ("full", (3,), (("a", 3, 3),)), ("empty", (), (("a", 4, 4),)))
        self.wrong(news, ("full", (3,), (("a", 1, 2),)), ("full", (4,), (("a", 3, 3),)))
        # The stretches (a, 1, 2) and (a, 3, 3) get 1 and 0, and both have more open cells than that.
        self.wrong(news, ("empty", (), (("a", 1, 2), ("a", 4, 4))), ("empty", (), (("a", 3, 3), ("a", 4, 4))))

    def test_where_a_history_agrees(self):
        news = [("many", 1, 3), ("times", "a", 1, 1)]
        for kind in ("full", "empty"):
            for versions in ((), (1,)):
                self.wrong(news, (kind, versions, ()), (kind, versions, (A,)), (kind, versions, (A, B, C)))

    def test_tuples_that_are_no_papers_about_the_news(self):
        news = [("many", 1, 4), ("times", "a", 2, 1), ("head", 3)]
        self.right(news, ("full", (1,), ()))
        self.wrong(news, ("full", (1, 1), ()), ("full", (1, 4), ()), ("full", (0, 1), ()), ("full", (2, 1), ()))
        self.wrong(news, ("half", (1,), ()), ("full", (1,), (("a", 1, 3),)), ("full", (1,), (("zz", 1, 2),)))
        news = [("did", 1, "a"), ("did", 2, "a"), ("did", 3, "a"), ("times", "a", 3, 2), ("times", "b", 3, 2)]
        rows = (("a", 1, 3), ("b", 1, 3))
        self.right(news, ("full", (), rows[:1]))
        self.wrong(news, ("full", (), rows[:1] * 2), ("full", (), (rows[1], rows[0])))
        # Twice 2 would be more than 3.
        self.wrong([("times", "a", 3, 2)], ("empty", (), rows[:1] * 2))

    def test_arguments_stay_as_they_are(self):
        news = [("many", 1, 4)]
        is_right(SHELF, news, ("full", (1,), ()))
        self.assertEqual(news, [("many", 1, 4)])


if __name__ == "__main__":
    unittest.main()
