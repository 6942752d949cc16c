"""Issue 8, promises 1 and 2: what is sure of keys and of views (points 5 to 9)."""

import unittest

from suresnap.sure import newest, sure_value, true_versions, unsure
from tests import reference

SHELF = ("a", "b")


class SureValue(unittest.TestCase):
    def holds(self, shelf, news, key, wanted):
        """The sure values of a key are these, from version 0 up to the head."""
        for rows in (list(news), list(reversed(news)), list(news) * 2):
            copy = list(rows)
            found = [sure_value(shelf, rows, key, version) for version in range(len(wanted))]
            self.assertEqual(found, wanted, (rows, key))
            self.assertEqual(rows, copy)
        self.assertEqual(len(wanted), reference.head_of(news) + 1)

    def test_no_versions(self):
        for news in ([], [("head", 0)], [("value", "a", 1, 5)], [("times", "a", 0, 0)]):
            self.holds(SHELF, news, "a", [0])

    def test_written_with_a_value(self):
        news = [("did", 1, "a"), ("value", "a", 1, 5)]
        self.holds(SHELF, news, "a", [0, 5])
        self.holds(SHELF, news, "b", [0, None])
        self.holds(SHELF, news + [("value", "b", 1, 0)], "b", [0, 0])
        self.holds(SHELF, news + [("value", "b", 1, 3)], "b", [0, None])
        self.holds(SHELF, news + [("many", 1, 1)], "b", [0, 0])

    def test_write_of_which_no_news_tells(self):
        self.holds(SHELF, [("did", 1, "a")], "a", [0, None])
        self.holds(("a",), [("head", 3), ("value", "a", 2, 4)], "a", [0, None, 4, None])
        self.holds(("a",), [("head", 3), ("value", "a", 2, 0), ("value", "a", 3, 0)], "a", [0, None, 0, 0])

    def test_not_written(self):
        self.holds(SHELF, [("times", "a", 3, 0)], "a", [0, 0, 0, 0])
        self.holds(SHELF, [("among", 1, ("b",)), ("head", 2)], "a", [0, 0, None])

    def test_many_numbers_that_tell_the_same(self):
        news = [("did", 1, "a"), ("head", 3), ("value", "a", 1, 6), ("value", "a", 2, 6)]
        self.holds(SHELF, news, "a", [0, 6, 6, None])
        self.holds(SHELF, news + [("value", "a", 3, 6)], "a", [0, 6, 6, 6])
        self.holds(SHELF, news + [("value", "a", 3, 7)], "a", [0, 6, 6, None])
        self.holds(SHELF, [("head", 2), ("value", "a", 1, 0), ("value", "a", 2, 0)], "a", [0, 0, 0])
        self.holds(SHELF, [("head", 2), ("value", "a", 1, 6), ("value", "a", 2, 6)], "a", [0, None, None])
        self.holds(SHELF, [("head", 2), ("value", "a", 1, 0), ("value", "a", 2, 1)], "a", [0, 0, None])

    def test_number_between_two_that_tell_the_same(self):
        news = [("did", 1, "a"), ("head", 3), ("value", "a", 1, 6), ("value", "a", 3, 6)]
        self.holds(SHELF, news, "a", [0, 6, None, None])

    def test_value_of_a_write_that_is_not_there(self):
        self.holds(SHELF, [("times", "a", 2, 1), ("value", "a", 2, 9)], "a", [0, None, None])
        self.holds(SHELF, [("times", "a", 2, 0), ("value", "a", 1, 9), ("value", "a", 20, 9)], "a", [0, 0, 0])
        self.holds(SHELF, [("wrote", 1, ("a",)), ("value", "a", 1, 4), ("value", "a", 2, 9)], "a", [0, 4])
        # The value of the second write does not prove that there is one.
        self.holds(SHELF, [("did", 1, "a"), ("head", 2), ("value", "a", 1, 4), ("value", "a", 2, 9)], "a", [0, 4, None])

    def test_values_of_other_keys_tell_nothing(self):
        self.holds(SHELF, [("did", 1, "a"), ("value", "b", 1, 5), ("value", "zz", 1, 5)], "a", [0, None])

    def test_later_news_makes_an_earlier_value_sure(self):
        news = [("head", 3), ("value", "a", 1, 8), ("value", "a", 2, 9)]
        self.holds(SHELF, news, "a", [0, None, None, None])
        self.holds(SHELF, news + [("times", "a", 3, 2)], "a", [0, None, None, 9])
        self.holds(SHELF, news + [("times", "a", 3, 2), ("among", 1, ("b",))], "a", [0, 0, 8, 9])
        self.holds(SHELF, news + [("times", "a", 3, 2), ("wrote", 3, ("b",))], "a", [0, 8, 9, 9])
        self.holds(SHELF, news + [("times", "b", 3, 0)], "a", [0, 8, 9, None])

    def test_beyond_the_limits(self):
        self.holds(SHELF, [("head", 1), ("value", "a", 0, 9), ("value", "a", 1, 0)], "a", [0, 0])
        self.holds(("a",), [("head", 22), ("value", "a", 22, 2000000)], "a", [0] + [None] * 21 + [2000000])


class Views(unittest.TestCase):
    NEWS = [("wrote", 1, ("a",)), ("wrote", 2, ("b",)), ("did", 3, "a"), ("head", 5), ("wrote", 4, ("a", "b")),
            ("times", "a", 5, 3), ("value", "a", 1, 10), ("value", "a", 3, 30), ("value", "b", 1, 7),
            ("value", "b", 2, 8)]

    def test_true_versions(self):
        # a is written at 1, 3 and 4, b at 2, 4 and 5 and perhaps at 3.
        self.assertEqual(true_versions(SHELF, self.NEWS, ("a",)), [0, 1, 2, 4, 5])
        self.assertEqual(true_versions(SHELF, self.NEWS, ("b",)), [0, 1, 2])
        self.assertEqual(true_versions(SHELF, self.NEWS, SHELF), [0, 1, 2])
        news = self.NEWS + [("wrote", 3, ("a",))]
        self.assertEqual(true_versions(SHELF, news, ("b",)), [0, 1, 2, 3, 4])
        self.assertEqual(true_versions(SHELF, news, SHELF), [0, 1, 2, 4])

    def test_newest(self):
        self.assertEqual(newest(SHELF, self.NEWS, ("a",)), (5, (30,)))
        self.assertEqual(newest(SHELF, self.NEWS, ("b",)), (2, (7,)))
        self.assertEqual(newest(SHELF, self.NEWS, SHELF), (2, (10, 7)))
        self.assertEqual(newest(SHELF, self.NEWS + [("wrote", 3, ("a",))], SHELF), (4, (30, 8)))
        self.assertEqual(newest(SHELF, self.NEWS + [("wrote", 3, ("a",)), ("value", "b", 3, -1)], SHELF), (5, (30, -1)))

    def test_unsure(self):
        wanted = [[], [], [], ["a", "b"], ["b"], ["b"]]
        self.assertEqual([unsure(SHELF, self.NEWS, SHELF, version) for version in range(6)], wanted)
        self.assertEqual(unsure(SHELF, self.NEWS, ("a",), 3), ["a"])
        self.assertEqual(unsure(SHELF, self.NEWS, ("a",), 4), [])
        self.assertEqual(unsure(SHELF, self.NEWS, ("b",), 4), ["b"])

    def test_no_versions(self):
        for news in ([], [("head", 0)], [("value", "a", 1, 5)], [("value", "zz", 1, 5), ("times", "b", 0, 0)]):
            self.assertEqual(true_versions(SHELF, news, SHELF), [0])
            self.assertEqual(newest(SHELF, news, SHELF), (0, (0, 0)))
            self.assertEqual(unsure(SHELF, news, SHELF, 0), [])

    def test_head_alone(self):
        self.assertEqual(true_versions(SHELF, [("head", 3)], ("a",)), [0])
        self.assertEqual(newest(SHELF, [("head", 3)], ("b",)), (0, (0,)))
        self.assertEqual(unsure(SHELF, [("head", 3)], SHELF, 3), ["a", "b"])
        self.assertEqual(unsure(SHELF, [("head", 3)], SHELF, 0), [])

    def test_versions_that_are_true_need_not_follow_each_other(self):
        news = [("wrote", version, ("a", "b")) for version in (1, 2, 3, 4)]
        news += [("value", "a", 2, 1), ("value", "a", 4, 1), ("value", "b", 2, 2), ("value", "b", 3, 2)]
        self.assertEqual(true_versions(SHELF, news, SHELF), [0, 2])
        self.assertEqual(true_versions(SHELF, news, ("a",)), [0, 2, 4])
        self.assertEqual(newest(SHELF, news, SHELF), (2, (1, 2)))
        self.assertEqual(newest(SHELF, news, ("b",)), (3, (2,)))

    def test_values_stand_in_the_order_of_the_view(self):
        shelf = ("a", "aa", "b", "c")
        news = [("wrote", 1, shelf)] + [("value", key, 1, at) for at, key in enumerate(("c", "b", "aa"))]
        self.assertEqual(newest(shelf, news, ("aa", "b", "c")), (1, (2, 1, 0)))
        self.assertEqual(newest(shelf, news, ("aa", "c")), (1, (2, 0)))
        self.assertEqual(unsure(shelf, news, ("a", "c"), 1), ["a"])
        self.assertEqual(newest(shelf, news, shelf), (0, (0, 0, 0, 0)))

    def test_kinds_of_the_answers_and_new_lists(self):
        self.assertIs(type(newest(SHELF, self.NEWS, SHELF)), tuple)
        self.assertIs(type(newest(SHELF, self.NEWS, SHELF)[1]), tuple)
        copy = list(self.NEWS)
        true_versions(SHELF, self.NEWS, SHELF).append("more")
        unsure(SHELF, self.NEWS, SHELF, 3).append("more")
        self.assertEqual(true_versions(SHELF, self.NEWS, SHELF), [0, 1, 2])
        self.assertEqual(unsure(SHELF, self.NEWS, SHELF, 3), ["a", "b"])
        self.assertEqual(self.NEWS, copy)


if __name__ == "__main__":
    unittest.main()
