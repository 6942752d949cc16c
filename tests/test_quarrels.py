"""Issue 8, promise 5: the least quarrels (point 14)."""

import unittest

from suresnap.quarrels import against, quarrel

SHELF = ("a", "b")


class Quarrel(unittest.TestCase):
    def holds(self, news, wanted, shelf=SHELF):
        copy = list(news)
        self.assertEqual(quarrel(shelf, news), wanted, news)
        self.assertEqual(news, copy)

    def test_no_quarrel(self):
        self.holds([], None)
        self.holds([("head", 0)], None)
        self.holds([("head", 20), ("value", "a", 1, 5), ("value", "zz", 1, 5)], None)
        self.holds([("many", 1, 2), ("did", 1, "a"), ("did", 1, "a"), ("times", "b", 1, 1)], None)

    def test_one_piece(self):
        self.holds([("times", "a", 2, 3)], [0])
        self.holds([("head", 2), ("many", 1, 3), ("times", "a", 2, 3)], [1])
        self.holds([("head", 2), ("did", 1, "a"), ("among", 1, ("a", "zz")), ("did", 1, "zz")], [2])
        self.holds([("times", "a", 0, 0), ("times", "a", 0, 1)], [1])

    def test_two_pieces(self):
        self.holds([("many", 1, 1), ("many", 1, 2)], [0, 1])
        self.holds([("value", "a", 1, 5), ("head", 1), ("value", "a", 1, 6)], [0, 2])
        self.holds([("value", "zz", 1, 5), ("value", "zz", 2, 6), ("value", "zz", 1, 6)], [0, 2])
        self.holds([("did", 2, "a"), ("times", "a", 1, 1), ("times", "a", 2, 1)], [0, 1, 2])

    def test_fewest_indices_come_before_lesser_ones(self):
        news = [("times", "a", 2, 1), ("did", 1, "a"), ("did", 2, "a"), ("many", 1, 3)]
        self.holds(news[:3], [0, 1, 2])
        self.holds(news, [3])
        self.holds(news[:3] + [("times", "b", 1, 1), ("among", 1, ("a",))], [3, 4])

    def test_first_of_those_with_as_many_indices(self):
        news = [("many", 1, 2), ("did", 2, "a"), ("wrote", 2, ("b",)), ("many", 1, 1)]
        self.holds(news, [0, 3])
        self.holds([news[1], news[0], news[3], news[2]], [0, 3])
        self.holds([news[0], news[1], news[3], news[2]], [0, 2])
        self.holds([("head", 1), ("many", 1, 1), ("many", 1, 2), ("many", 1, 1), ("many", 1, 2)], [1, 2])

    def test_pieces_that_stand_twice(self):
        self.holds([("many", 1, 3)] * 3, [0])
        self.holds([("many", 1, 1), ("many", 1, 1), ("many", 1, 2), ("many", 1, 2)], [0, 2])
        self.holds([("did", 1, "a")] * 8, None)

    def test_head_is_that_of_the_pieces_alone(self):
        news = [("head", 3), ("times", "a", 3, 1), ("times", "b", 3, 1)]
        self.holds(news, [1, 2])
        self.holds(news[:2], None)
        self.holds([("times", "a", 1, 0), ("head", 20)], None)
        self.holds([("times", "a", 1, 0)], [0], shelf=("a",))

    def test_all_of_eight_pieces(self):
        news = [("times", "a", 7, 6)] + [("did", version, "a") for version in range(1, 8)]
        self.holds(news, [0, 1, 2, 3, 4, 5, 6, 7])
        self.holds(news[:7], None)
        self.holds(news[1:], None)
        self.holds([("times", "a", 7, 5)] + news[1:], [0, 1, 2, 3, 4, 5, 6])

    def test_list_is_new(self):
        news = [("many", 1, 3)]
        quarrel(SHELF, news).append(7)
        self.assertEqual(quarrel(SHELF, news), [0])
        self.assertIs(type(quarrel(SHELF, news)), list)

    def test_beyond_the_limits(self):
        self.holds([("did", 22, "a")] * 9 + [("times", "a", 22, 0)], [0, 9])


class Against(unittest.TestCase):
    def holds(self, news, piece, wanted, shelf=SHELF):
        copy = list(news)
        self.assertEqual(against(shelf, news, piece), wanted, (news, piece))
        self.assertEqual(news, copy)

    def test_nothing_against_it(self):
        self.holds([], ("head", 3), None)
        self.holds([("many", 1, 2)], ("did", 1, "a"), None)
        self.holds([("did", 1, "a")], ("did", 1, "a"), None)
        self.holds([("times", "a", 3, 0)], ("value", "a", 1, 5), None)

    def test_piece_with_which_no_history_agrees(self):
        for news in ([], [("head", 3)], [("many", 1, 1), ("did", 1, "a")]):
            self.holds(news, ("times", "a", 1, 2), [])
            self.holds(news, ("did", 1, "zz"), [])
            self.holds(news, ("many", 1, 3), [])
        self.holds([("times", "a", 0, 0)], ("times", "a", 0, 1), [])

    def test_one_piece_against_it(self):
        news = [("head", 4), ("many", 2, 1), ("did", 2, "a"), ("value", "zz", 1, 5)]
        self.holds(news, ("many", 2, 2), [1])
        self.holds(news, ("wrote", 2, ("b",)), [2])
        self.holds(news, ("value", "zz", 1, 6), [3])
        self.holds(news, ("wrote", 2, ("a", "b")), [1])

    def test_several_pieces_against_it(self):
        news = [("many", 2, 1), ("times", "a", 1, 1), ("head", 4), ("did", 2, "b")]
        self.holds(news, ("times", "a", 2, 2), [0, 3])
        self.holds(news, ("did", 2, "a"), [0, 3])
        self.holds(news, ("times", "a", 2, 0), [1])

    def test_fewest_and_first(self):
        news = [("did", 1, "a"), ("did", 2, "a"), ("did", 3, "a"), ("times", "b", 3, 2)]
        self.holds(news, ("times", "a", 3, 1), [0, 1])
        self.holds(news, ("times", "a", 3, 2), [0, 1, 2])
        self.holds(news[::-1], ("times", "a", 3, 1), [1, 2])
        # Three commits write at least three times together, so two writes of b are too few without one of a.
        self.holds(news[::-1], ("times", "a", 3, 0), [0])
        self.holds(news[::-1] + [("times", "a", 3, 3)], ("times", "a", 3, 2), [4])
        self.holds(news, ("times", "b", 3, 2), None)

    def test_head_is_that_of_the_chosen_pieces(self):
        self.holds([("head", 3)], ("times", "a", 1, 1), None)
        self.holds([("times", "a", 3, 1), ("head", 9)], ("times", "b", 3, 1), [0])

    def test_eight_pieces(self):
        news = [("did", version, "a") for version in range(1, 9)]
        self.holds(news, ("times", "a", 8, 7), [0, 1, 2, 3, 4, 5, 6, 7])
        self.holds(news, ("times", "a", 8, 5), [0, 1, 2, 3, 4, 5])
        self.holds(news, ("times", "a", 8, 8), None)

    def test_list_is_new(self):
        news = [("many", 1, 1)]
        against(SHELF, news, ("many", 1, 2)).append(7)
        against(SHELF, news, ("many", 1, 3)).append(7)
        self.assertEqual(against(SHELF, news, ("many", 1, 2)), [0])
        self.assertEqual(against(SHELF, news, ("many", 1, 3)), [])


if __name__ == "__main__":
    unittest.main()
