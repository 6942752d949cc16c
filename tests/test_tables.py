"""Issue 5, promises 1 and 3: whether there is a history, and the first one (points 5, 6, 10 and 13)."""

import unittest

from suresnap.tables import first_history, possible
from tests import reference
from tests.drawing import every_piece

SHELF = ("a", "b", "c")


class Possible(unittest.TestCase):
    def holds(self, *news, shelf=SHELF):
        for rows in (list(news), list(reversed(news)), list(news) * 2):
            self.assertIs(possible(shelf, rows), True, rows)

    def fails(self, *news, shelf=SHELF):
        for rows in (list(news), list(reversed(news)), list(news) * 2):
            self.assertIs(possible(shelf, rows), False, rows)

    def test_empty_list(self):
        self.holds()

    def test_value_alone(self):
        self.holds(("value", "a", 1, 5))
        self.holds(("value", "a", 20, 5), ("value", "zz", 1, 6))
        self.fails(("value", "a", 1, 5), ("value", "a", 1, 6))
        self.fails(("value", "zz", 1, 5), ("value", "zz", 1, 6))

    def test_head(self):
        self.holds(("head", 0))
        self.holds(("head", 1))
        self.holds(("head", 20), ("head", 3))

    def test_times_at_version_0(self):
        self.holds(("times", "a", 0, 0))
        self.holds(("times", "a", 0, 0), ("times", "a", 1, 1))
        self.fails(("times", "a", 0, 1))
        self.fails(("times", "a", 0, 1), ("times", "a", 1, 1))
        self.fails(("times", "a", 0, 20), ("head", 20))

    def test_times_greater_than_its_version(self):
        self.holds(("times", "a", 3, 3))
        self.fails(("times", "a", 3, 4))
        self.fails(("times", "a", 1, 20))
        self.fails(("times", "a", 3, 4), ("head", 20))

    def test_times_of_two_versions(self):
        self.holds(("times", "a", 2, 1), ("times", "a", 4, 3))
        self.fails(("times", "a", 2, 1), ("times", "a", 4, 4))
        self.fails(("times", "a", 2, 0), ("times", "a", 3, 2))

    def test_many_greater_than_the_shelf(self):
        self.holds(("many", 1, 3))
        self.fails(("many", 1, 4))
        self.fails(("many", 1, 20))
        self.fails(("many", 1, 2), shelf=("a",))

    def test_a_commit_writes_at_least_one_key(self):
        self.fails(("times", "a", 1, 0), shelf=("a",))
        self.fails(("times", "a", 1, 0), ("times", "b", 1, 0), ("times", "c", 1, 0))
        self.holds(("times", "a", 1, 0), ("times", "b", 1, 0), ("times", "c", 1, 1))
        self.fails(("times", "a", 4, 1), ("times", "b", 4, 1), ("times", "c", 4, 1))
        self.holds(("times", "a", 3, 1), ("times", "b", 3, 1), ("times", "c", 3, 1))

    def test_among(self):
        self.holds(("among", 1, SHELF))
        self.holds(("among", 1, SHELF), ("many", 1, 3))
        self.holds(("among", 1, ("a", "c")), ("many", 1, 2))
        self.fails(("among", 1, ("a", "c")), ("many", 1, 3))
        self.holds(("among", 1, ("a", "c")), ("among", 1, ("b", "c")), ("many", 1, 1))
        self.fails(("among", 1, ("a",)), ("among", 1, ("b",)))
        self.fails(("among", 1, ("a", "c")), ("times", "a", 1, 0), ("times", "c", 1, 0))

    def test_keys_that_are_not_on_the_shelf(self):
        self.fails(("among", 1, ("a", "b", "c", "d")))
        self.fails(("among", 1, ("a", "d")))
        self.fails(("among", 1, ("d",)))
        self.fails(("wrote", 1, ("a", "d")))
        self.fails(("did", 1, "d"))
        self.fails(("times", "d", 1, 0))
        self.fails(("times", "d", 0, 0))
        self.holds(("value", "d", 1, 5), ("head", 2))

    def test_wrote_many_and_did(self):
        self.holds(("wrote", 1, ("a", "c")), ("many", 1, 2), ("did", 1, "c"))
        self.fails(("wrote", 1, ("a", "c")), ("many", 1, 1))
        self.fails(("wrote", 1, ("a", "c")), ("did", 1, "b"))
        self.fails(("wrote", 1, ("a", "c")), ("wrote", 1, ("a", "b")))
        self.holds(("many", 1, 2), ("did", 1, "a"), ("did", 1, "b"))
        self.fails(("many", 1, 1), ("did", 1, "a"), ("did", 1, "b"))

    def test_commits_against_times(self):
        self.fails(("many", 1, 3), ("times", "b", 1, 0))
        self.fails(("did", 1, "a"), ("did", 2, "a"), ("times", "a", 2, 1))
        self.fails(("did", 1, "a"), ("did", 2, "a"), ("times", "a", 3, 1))
        self.holds(("did", 1, "a"), ("did", 3, "a"), ("times", "a", 2, 1))
        self.fails(("many", 1, 2), ("many", 2, 2), ("times", "a", 2, 0), ("times", "b", 2, 1))

    def test_every_single_piece_beyond_and_within_the_limits(self):
        shelf = ("a", "b")
        for piece in every_piece(("a", "b", "zz"), 2) + [("many", 1, 0), ("times", "a", 2, 21), ("many", 1, 21),
                                                         ("did", 0, "a"), ("wrote", 0, ("a",)), ("many", 0, 1),
                                                         ("head", 21), ("did", 22, "b"), ("value", "a", 0, 5)]:
            news = [piece]
            found = possible(shelf, news)
            self.assertEqual(news, [piece])
            if found:
                self.assertTrue(reference.agrees(shelf, first_history(shelf, news), news), piece)
            elif piece[0] == "many":
                self.assertTrue(piece[2] not in (1, 2) or piece[1] == 0, piece)
            elif piece[0] == "times":
                self.assertTrue(piece[1] == "zz" or piece[3] > piece[2], piece)
            else:
                self.assertTrue("zz" in str(piece) or piece[1] == 0, piece)
                self.assertNotIn(piece[0], ("head", "value"))


class FirstHistory(unittest.TestCase):
    def first(self, shelf, news, wanted):
        for rows in (list(news), list(reversed(news)), list(news) * 2):
            copy = list(rows)
            self.assertEqual(first_history(shelf, rows), wanted, rows)
            self.assertEqual(rows, copy)
        self.assertTrue(reference.agrees(shelf, wanted, news))

    def test_no_versions(self):
        self.first(SHELF, [], [])
        self.first(SHELF, [("head", 0)], [])
        self.first(SHELF, [("value", "a", 1, 5)], [])

    def test_early_keys_are_not_written_where_they_need_not_be(self):
        self.first(SHELF, [("head", 2)], [(("c", 0),), (("c", 0),)])
        self.first(SHELF, [("many", 1, 2)], [(("b", 0), ("c", 0))])
        self.first(SHELF, [("did", 1, "a"), ("did", 2, "b")], [(("a", 0),), (("b", 0),)])
        self.first(SHELF, [("among", 1, ("a", "b"))], [(("b", 0),)])

    def test_early_versions_come_first(self):
        self.first(("a", "b"), [("times", "a", 3, 1)], [(("b", 0),), (("b", 0),), (("a", 0),)])
        self.first(("a", "b"), [("times", "b", 2, 0), ("times", "a", 4, 2)],
                   [(("a", 0),), (("a", 0),), (("b", 0),), (("b", 0),)])
        self.first(("a", "b"), [("times", "a", 2, 1), ("times", "b", 2, 2)], [(("b", 0),), (("a", 0), ("b", 0))])
        self.first(("a", "b"), [("times", "a", 2, 1), ("times", "b", 2, 1)], [(("b", 0),), (("a", 0),)])

    def test_a_later_version_may_need_an_early_one(self):
        # All writes of c stand in the last versions, so the first ones must write keys that come before it.
        news = [("times", "c", 4, 2), ("did", 3, "c"), ("did", 4, "c")]
        self.first(SHELF, news, [(("b", 0),), (("b", 0),), (("c", 0),), (("c", 0),)])
        self.first(SHELF, news + [("times", "b", 4, 1)], [(("b", 0),), (("a", 0),), (("c", 0),), (("c", 0),)])

    def test_values(self):
        news = [("head", 3), ("value", "b", 1, 7), ("value", "b", 3, -9), ("value", "b", 4, 5), ("value", "a", 1, 4)]
        self.first(("a", "b"), news, [(("b", 7),), (("b", 0),), (("b", -9),)])
        self.first(("a", "b"), news + [("wrote", 1, ("a", "b"))], [(("a", 4), ("b", 7)), (("b", 0),), (("b", -9),)])
        self.first(("a", "b"), news + [("wrote", 1, ("a",))], [(("a", 4),), (("b", 7),), (("b", 0),)])

    def test_values_of_writes_that_are_not_there_or_not_on_the_shelf(self):
        self.first(("a", "b"), [("head", 1), ("value", "b", 2, 7), ("value", "a", 1, 7), ("value", "zz", 1, 7)],
                   [(("b", 0),)])

    def test_value_that_is_0(self):
        news = [("head", 2), ("value", "a", 1, 0), ("value", "a", 2, 1000000)]
        self.first(("a",), news, [(("a", 0),), (("a", 1000000),)])

    def test_order_of_keys_is_that_of_the_shelf(self):
        self.first(("a", "aa", "ab", "b"), [("many", 1, 3)], [(("aa", 0), ("ab", 0), ("b", 0))])

    def test_list_is_new(self):
        news = [("head", 2)]
        first_history(SHELF, news).append("more")
        self.assertEqual(first_history(SHELF, news), [(("c", 0),), (("c", 0),)])


if __name__ == "__main__":
    unittest.main()
