"""Issue 5, promise 4: the numbers of writes that are possible (points 6 and 7)."""

import unittest

from suresnap.counts import counts, history_with
from tests import reference

SHELF = ("a", "b")
EXAMPLE = [("many", 1, 1), ("wrote", 2, ("a",)), ("times", "b", 3, 2)]


class Counts(unittest.TestCase):
    def holds(self, shelf, news, key, wanted):
        """The counts of a key are these, from version 0 up to the head."""
        for rows in (list(news), list(reversed(news)), list(news) * 2):
            copy = list(rows)
            found = [counts(shelf, rows, key, version) for version in range(len(wanted))]
            self.assertEqual(found, wanted, (rows, key))
            self.assertEqual(rows, copy)
        self.assertEqual(len(wanted), reference.head_of(news) + 1)

    def test_example_of_the_document(self):
        self.assertEqual(counts(SHELF, EXAMPLE, "a", 3), (1, 2))
        self.holds(SHELF, EXAMPLE, "a", [(0, 0), (0, 0), (1, 1), (1, 2)])
        self.holds(SHELF, EXAMPLE, "b", [(0, 0), (1, 1), (1, 1), (2, 2)])

    def test_no_versions(self):
        for news in ([], [("head", 0)], [("value", "a", 1, 5)], [("times", "a", 0, 0)]):
            self.holds(SHELF, news, "a", [(0, 0)])

    def test_head_alone(self):
        self.holds(SHELF, [("head", 3)], "a", [(0, 0), (0, 1), (0, 2), (0, 3)])
        self.holds(("a",), [("head", 3)], "a", [(0, 0), (1, 1), (2, 2), (3, 3)])

    def test_did_and_among(self):
        self.holds(SHELF, [("did", 2, "a"), ("head", 3)], "a", [(0, 0), (0, 1), (1, 2), (1, 3)])
        self.holds(SHELF, [("among", 2, ("b",)), ("head", 3)], "a", [(0, 0), (0, 1), (0, 1), (0, 2)])
        self.holds(SHELF, [("among", 2, ("b",)), ("head", 3)], "b", [(0, 0), (0, 1), (1, 2), (1, 3)])

    def test_times_bind_the_versions_in_front(self):
        self.holds(SHELF, [("times", "a", 3, 2), ("head", 4)], "a", [(0, 0), (0, 1), (1, 2), (2, 2), (2, 3)])
        self.holds(SHELF, [("times", "a", 3, 2), ("head", 4)], "b", [(0, 0), (0, 1), (0, 2), (1, 3), (1, 4)])
        self.holds(SHELF, [("times", "a", 4, 1), ("times", "a", 0, 0)], "a", [(0, 0), (0, 1), (0, 1), (0, 1), (1, 1)])

    def test_times_of_other_keys_and_many(self):
        news = [("many", 1, 2), ("many", 2, 1), ("times", "b", 2, 1), ("head", 3)]
        self.holds(("a", "b", "c"), news, "a", [(0, 0), (0, 1), (0, 2), (0, 3)])
        news = news + [("times", "c", 2, 1)]
        self.holds(("a", "b", "c"), news, "a", [(0, 0), (0, 1), (1, 1), (1, 2)])

    def test_history_with_example_of_the_document(self):
        wanted = [(("b", 0),), (("a", 0),), (("a", 0), ("b", 0))]
        self.assertEqual(history_with(SHELF, EXAMPLE, "a", 3, 2), wanted)
        self.assertEqual(history_with(SHELF, EXAMPLE, "a", 3, 1), [(("b", 0),), (("a", 0),), (("b", 0),)])

    def test_history_with_a_number_that_is_not_possible(self):
        for number in (0, *range(3, 21)):
            self.assertIsNone(history_with(SHELF, EXAMPLE, "a", 3, number))
        for number in (0, *range(2, 21)):
            self.assertIsNone(history_with(SHELF, EXAMPLE, "a", 2, number))

    def test_history_with_at_version_0(self):
        self.assertEqual(history_with(SHELF, EXAMPLE, "a", 0, 0), [(("b", 0),), (("a", 0),), (("b", 0),)])
        self.assertEqual(history_with(SHELF, [], "a", 0, 0), [])
        for number in range(1, 21):
            self.assertIsNone(history_with(SHELF, EXAMPLE, "a", 0, number))
            self.assertIsNone(history_with(SHELF, [], "a", 0, number))

    def test_history_with_where_times_are_told(self):
        news = [("times", "a", 2, 1), ("head", 3)]
        self.assertEqual(history_with(SHELF, news, "a", 2, 1), [(("b", 0),), (("a", 0),), (("b", 0),)])
        self.assertIsNone(history_with(SHELF, news, "a", 2, 0))
        self.assertIsNone(history_with(SHELF, news, "a", 2, 2))
        self.assertIsNone(history_with(SHELF, news, "a", 3, 0))
        self.assertIsNone(history_with(SHELF, news, "a", 1, 2))

    def test_history_with_values(self):
        news = [("head", 3), ("value", "a", 2, 7), ("value", "b", 1, -4), ("value", "b", 3, 6), ("value", "zz", 1, 1)]
        self.assertEqual(history_with(SHELF, news, "a", 3, 2), [(("b", -4),), (("a", 0),), (("a", 7),)])
        self.assertEqual(history_with(SHELF, news, "a", 3, 1), [(("b", -4),), (("b", 0),), (("a", 0),)])
        self.assertEqual(history_with(SHELF, news, "a", 3, 0), [(("b", -4),), (("b", 0),), (("b", 6),)])

    def test_value_of_a_later_write_proves_no_write(self):
        news = [("head", 2), ("value", "a", 2, 7)]
        self.holds(SHELF, news, "a", [(0, 0), (0, 1), (0, 2)])
        self.assertEqual(history_with(SHELF, news, "a", 2, 1), [(("b", 0),), (("a", 0),)])

    def test_arguments_stay_as_they_are(self):
        news = list(EXAMPLE)
        history_with(SHELF, news, "a", 3, 2).append("more")
        self.assertEqual(news, EXAMPLE)
        self.assertEqual(len(history_with(SHELF, news, "a", 3, 2)), 3)


if __name__ == "__main__":
    unittest.main()
