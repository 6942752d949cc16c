"""Issue 2, promise 3: histories (points 3 to 5)."""

import itertools
import random
import unittest

from suresnap.histories import agrees, head_of, times_in, value_in
from tests import reference

SHELF = ("a", "b")
HISTORY = [(("a", 5), ("b", 0)), (("b", -3),), (("a", 7),), (("a", 0), ("b", 9))]


def histories(shelf, versions, values):
    """All histories with this number of versions and these values."""
    commits = []
    for size in range(1, len(shelf) + 1):
        for keys in itertools.combinations(shelf, size):
            for row in itertools.product(values, repeat=size):
                commits.append(tuple(zip(keys, row)))
    return [list(rows) for rows in itertools.product(commits, repeat=versions)]


def pieces(names, versions):
    """Many pieces about these keys and versions."""
    sets = [keys for size in (1, 2, 3) for keys in itertools.combinations(names, size)]
    out = []
    for version in range(versions + 1):
        out += [("head", version)]
        out += [("times", key, version, number) for key in names for number in range(versions + 2)]
    for version in range(1, versions + 1):
        out += [("wrote", version, keys) for keys in sets] + [("among", version, keys) for keys in sets]
        out += [("many", version, number) for number in (1, 2, 3, 20)]
        out += [("did", version, key) for key in names]
    out += [("value", key, number, value) for key in names for number in (1, 2, 20) for value in (0, 1)]
    return out


class Walking(unittest.TestCase):
    def test_times(self):
        self.assertEqual([times_in(HISTORY, "a", version) for version in range(5)], [0, 1, 1, 2, 3])
        self.assertEqual([times_in(HISTORY, "b", version) for version in range(5)], [0, 1, 2, 2, 3])

    def test_values(self):
        self.assertEqual([value_in(HISTORY, "a", version) for version in range(5)], [0, 5, 5, 7, 0])
        self.assertEqual([value_in(HISTORY, "b", version) for version in range(5)], [0, 0, -3, -3, 9])

    def test_key_that_is_never_written(self):
        self.assertEqual(times_in(HISTORY, "c", 4), 0)
        self.assertEqual(value_in(HISTORY, "c", 4), 0)

    def test_history_without_versions(self):
        self.assertEqual(times_in([], "a", 0), 0)
        self.assertEqual(value_in([], "a", 0), 0)

    def test_twenty_versions(self):
        history = [(("a", version),) for version in range(1, 21)]
        for version in range(21):
            self.assertEqual(times_in(history, "a", version), version)
            self.assertEqual(value_in(history, "a", version), version)

    def test_argument_stays_as_it_is(self):
        history = [(("a", 5), ("b", 0)), (("b", -3),)]
        times_in(history, "b", 2)
        value_in(history, "b", 2)
        self.assertEqual(history, [(("a", 5), ("b", 0)), (("b", -3),)])

    def test_as_the_reference(self):
        for history in histories(SHELF, 3, (1, 2)):
            moments, _ = reference.walk(history, SHELF)
            for version, moment in enumerate(moments):
                for key, (times, value) in moment.items():
                    self.assertEqual(times_in(history, key, version), times)
                    self.assertEqual(value_in(history, key, version), value)


class Head(unittest.TestCase):
    def test_each_kind(self):
        self.assertEqual(head_of([]), 0)
        self.assertEqual(head_of([("wrote", 3, ("a",))]), 3)
        self.assertEqual(head_of([("many", 4, 9)]), 4)
        self.assertEqual(head_of([("among", 5, ("a",))]), 5)
        self.assertEqual(head_of([("did", 6, "a")]), 6)
        self.assertEqual(head_of([("times", "a", 7, 20)]), 7)
        self.assertEqual(head_of([("head", 20)]), 20)
        self.assertEqual(head_of([("head", 0)]), 0)
        self.assertEqual(head_of([("times", "a", 0, 3)]), 0)

    def test_value_has_none(self):
        self.assertEqual(head_of([("value", "a", 9, 1000)]), 0)
        self.assertEqual(head_of([("value", "a", 9, 1000), ("head", 2)]), 2)

    def test_greatest(self):
        self.assertEqual(head_of([("head", 2), ("did", 5, "a"), ("times", "a", 4, 9), ("many", 1, 7)]), 5)
        self.assertEqual(head_of([("did", 5, "z"), ("did", 5, "a"), ("wrote", 3, ("a",))]), 5)

    def test_news_that_no_history_agrees_with(self):
        self.assertEqual(head_of([("wrote", 1, ("a",)), ("wrote", 1, ("b",)), ("did", 2, "zz")]), 2)


class Agrees(unittest.TestCase):
    def holds(self, news, history=HISTORY, shelf=SHELF):
        self.assertIs(agrees(shelf, history, news), True, news)

    def fails(self, news, history=HISTORY, shelf=SHELF):
        self.assertIs(agrees(shelf, history, news), False, news)

    def test_example_of_the_document(self):
        news = [("many", 1, 1), ("wrote", 2, ("a",)), ("times", "b", 3, 2)]
        self.holds(news, [(("b", 0),), (("a", 0),), (("a", 0), ("b", 0))])
        self.holds(news, [(("b", 0),), (("a", 0),), (("b", 4),)])
        self.fails(news, [(("a", 0),), (("a", 0),), (("b", 0),)])

    def test_no_news_and_no_versions(self):
        self.holds([], [])
        self.holds([("head", 0)], [])
        self.holds([("times", "a", 0, 0)], [])
        self.holds([("value", "a", 1, 5)], [])
        self.fails([("times", "a", 0, 1)], [])
        self.fails([], [(("a", 0),)])
        self.fails([("head", 1)], [])

    def test_as_many_versions_as_the_head(self):
        self.holds([("head", 4)])
        self.holds([("head", 2), ("did", 4, "a")])
        self.fails([("head", 3)])
        self.fails([("head", 5)])
        self.fails([("value", "a", 4, 0)])

    def test_wrote(self):
        self.holds([("head", 4), ("wrote", 1, ("a", "b")), ("wrote", 2, ("b",)), ("wrote", 4, ("a", "b"))])
        self.fails([("head", 4), ("wrote", 1, ("a",))])
        self.fails([("head", 4), ("wrote", 2, ("a",))])
        self.fails([("head", 4), ("wrote", 2, ("a", "b"))])

    def test_many(self):
        self.holds([("head", 4), ("many", 1, 2), ("many", 2, 1)])
        self.fails([("head", 4), ("many", 1, 1)])
        self.fails([("head", 4), ("many", 1, 20)])

    def test_among(self):
        self.holds([("head", 4), ("among", 1, ("a", "b")), ("among", 2, ("a", "b")), ("among", 2, ("b",))])
        self.fails([("head", 4), ("among", 1, ("a",))])
        self.fails([("head", 4), ("among", 2, ("a",))])

    def test_did(self):
        self.holds([("head", 4), ("did", 1, "a"), ("did", 1, "b"), ("did", 3, "a")])
        self.fails([("head", 4), ("did", 3, "b")])

    def test_times(self):
        self.holds([("head", 4), ("times", "a", 0, 0), ("times", "a", 2, 1), ("times", "b", 4, 3)])
        self.fails([("head", 4), ("times", "a", 2, 2)])
        self.fails([("head", 4), ("times", "a", 2, 0)])
        self.fails([("head", 4), ("times", "b", 4, 20)])

    def test_value(self):
        self.holds([("head", 4), ("value", "a", 1, 5), ("value", "a", 2, 7), ("value", "b", 1, 0)])
        self.fails([("head", 4), ("value", "a", 2, 5)])
        self.fails([("head", 4), ("value", "b", 2, 3)])

    def test_value_of_a_write_that_is_not_there(self):
        self.holds([("head", 4), ("value", "a", 4, 5), ("value", "a", 20, -6)])

    def test_two_values_for_one_write(self):
        self.holds([("head", 4), ("value", "a", 1, 5), ("value", "a", 1, 5)])
        self.fails([("head", 4), ("value", "a", 1, 5), ("value", "a", 1, 6)])
        self.fails([("head", 4), ("value", "a", 9, 5), ("value", "b", 9, 5), ("value", "a", 9, 6)])
        self.fails([("value", "a", 1, 5), ("value", "a", 1, 6)], [])
        self.fails([("value", "z", 1, 5), ("value", "z", 1, 6)], [])

    def test_key_that_is_not_on_the_shelf(self):
        self.fails([("head", 4), ("among", 1, ("a", "b", "c"))])
        self.fails([("head", 4), ("among", 2, ("b", "c"))])
        self.fails([("head", 4), ("wrote", 1, ("a", "b", "c"))])
        self.fails([("head", 4), ("wrote", 1, ("c",))])
        self.fails([("head", 4), ("did", 1, "c")])
        self.fails([("head", 4), ("times", "c", 4, 0)])
        self.fails([("head", 4), ("times", "c", 0, 0)])
        self.fails([("times", "c", 0, 0)], [])
        self.holds([("head", 4), ("value", "c", 1, 8)])

    def test_shelf_is_not_the_keys_of_the_history(self):
        self.holds([("head", 4), ("among", 1, ("a", "b", "c")), ("times", "c", 4, 0)], shelf=("a", "b", "c"))
        self.fails([("head", 4)], shelf=("a",))

    def test_no_histories_over_the_shelf(self):
        good = (("a", 1),)
        self.holds([("head", 2)], [good, good])
        for commit in ((), (("b", 1), ("a", 1)), (("a", 1), ("a", 1)), (("a", 1), ("a", 2)), (("c", 1),),
                       (("a", 1), ("c", 1)), (("a", 1), ("b", 1), ("b", 1))):
            self.fails([("head", 2)], [good, commit])
            self.fails([("head", 2)], [commit, good])

    def test_order_of_keys_is_that_of_strings(self):
        shelf = ("a", "aa", "ab", "b")
        self.holds([("head", 1)], [(("a", 1), ("aa", 1), ("ab", 1), ("b", 1))], shelf)
        self.fails([("head", 1)], [(("aa", 1), ("a", 1))], shelf)

    def test_twenty_versions(self):
        history = [(("a", version),) for version in range(1, 21)]
        self.holds([("times", "a", 20, 20), ("value", "a", 20, 20), ("did", 20, "a")], history)
        self.fails([("times", "a", 20, 19)], history)

    def test_version_somewhat_beyond_the_limits(self):
        self.fails([("head", 4), ("did", 0, "a")])
        self.fails([("did", 0, "a")], [])
        self.holds([("head", 4), ("value", "a", 0, 99)])
        history = [(("a", 0),)] * 21
        self.holds([("head", 21)], history)

    def test_arguments_stay_as_they_are(self):
        history = [(("a", 1),), (("b", 2),)]
        news = [("head", 2), ("value", "a", 1, 1), ("among", 1, ("a",))]
        self.assertTrue(agrees(SHELF, history, news))
        self.assertEqual(history, [(("a", 1),), (("b", 2),)])
        self.assertEqual(news, [("head", 2), ("value", "a", 1, 1), ("among", 1, ("a",))])

    def test_every_single_piece_as_the_reference(self):
        for versions in (0, 1, 2):
            for history in histories(SHELF, versions, (0, 1)):
                for piece in pieces(("a", "b", "c"), versions):
                    news = [("head", versions), piece]
                    self.assertEqual(agrees(SHELF, history, news), reference.agrees(SHELF, history, news), news)

    def test_lists_of_news_as_the_reference(self):
        draw = random.Random(4)
        shelf = ("a", "b", "c")
        rows = histories(shelf, 2, (0, 1)) + histories(shelf, 1, (0, 1)) + [[]]
        every = pieces(("a", "b", "c", "d"), 2)
        answers = {True: 0, False: 0}
        for _ in range(20000):
            history = draw.choice(rows)
            news = [draw.choice(every) for _ in range(draw.randint(0, 3))]
            # News that is mostly true of the history, so that both answers occur often.
            if draw.random() < 0.7:
                known = [piece for piece in news if reference.head_of([piece]) <= len(history)]
                news = [piece for piece in known if reference.piece_holds(shelf, history, piece)]
                news.append(("head", len(history)))
            wanted = reference.agrees(shelf, history, news)
            self.assertIs(agrees(shelf, history, news), wanted, (history, news))
            answers[wanted] += 1
        self.assertGreater(min(answers.values()), 2000)

    def test_lists_that_are_no_histories_as_the_reference(self):
        pairs = [(key, value) for key in ("a", "b", "c") for value in (0, 1)]
        commits = [()] + [(x,) for x in pairs] + [(x, y) for x in pairs for y in pairs]
        for first in commits:
            for second in ((), (("a", 0),), (("b", 1), ("a", 1))):
                news = [("head", 2), ("many", 2, 1)]
                history = [first, second]
                self.assertEqual(agrees(SHELF, history, news), reference.agrees(SHELF, history, news), history)


if __name__ == "__main__":
    unittest.main()
