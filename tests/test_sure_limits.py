"""Issue 8: the promises at the document's limits, where each call has to come back in seconds."""

import itertools
import random
import time
import unittest

from suresnap.bounds import clashes, stretches
from suresnap.client import Client
from suresnap.counts import counts, history_with
from suresnap.errors import Contradiction
from suresnap.papers import is_right, paper
from suresnap.quarrels import against, quarrel
from suresnap.sure import newest, sure_value, true_versions, unsure
from suresnap.tables import possible
from tests import reference
from tests.drawing import SIX, THREE, a_table, bent_once, drawn_news, mixed, tight_news, true_news, true_piece
from tests.enumeration import Sweep, is_in_form, says_so

SECONDS = 10


def forty_with_values(draw, shelf, versions):
    """40 true pieces, half of them values."""
    news = [piece for piece in tight_news(draw, shelf, versions) if piece[0] != "value"]
    draw.shuffle(news)
    values = [("value", key, number, draw.choice((0, 5))) for key in shelf for number in range(1, 21)]
    draw.shuffle(values)
    return (news[:25] + values)[:40]


class Timed(unittest.TestCase):
    def timed(self, call, *arguments):
        """What a call answers, which must come back in time."""
        start = time.perf_counter()
        answer = call(*arguments)
        self.assertLess(time.perf_counter() - start, SECONDS, (call, arguments))
        return answer


class Sure(Timed):
    def sure_by(self, sweep, key, version):
        """The sure value of a key by the states of a sweep."""
        told = {piece[1:3]: piece[3] for piece in sweep.news if piece[0] == "value"}
        told[key, 0] = 0
        numbers = {state[sweep.shelf.index(key)] for state in sweep.states[version]}
        values = {told.get((key, number)) for number in numbers}
        return values.pop() if len(values) == 1 else None

    def test_three_keys_as_the_sweep(self):
        draw = random.Random(101)
        for news in [forty_with_values(draw, THREE, 20) for _ in range(4)] + [true_news(draw, THREE, 20, 40)]:
            self.assertLessEqual(len(news), 40)
            news = news if reference.head_of(news) == 20 else news[1:] + [("head", 20)]
            sweep = Sweep(THREE, news)
            rows = [[self.sure_by(sweep, key, version) for key in THREE] for version in range(21)]
            found = [[sure_value(THREE, news, key, version) for key in THREE] for version in range(21)]
            self.assertEqual(found, rows, news)
            good = [version for version, values in enumerate(rows) if None not in values]
            self.assertEqual(self.timed(true_versions, THREE, news, THREE), good, news)
            wanted = (good[-1], tuple(rows[good[-1]]))
            self.assertEqual(self.timed(newest, THREE, news, THREE), wanted, news)
            for version, values in enumerate(rows):
                wanted = [key for key, value in zip(THREE, values) if value is None]
                self.assertEqual(unsure(THREE, news, THREE, version), wanted)

    def test_six_keys_of_which_all_is_told(self):
        draw = random.Random(102)
        table = a_table(draw, SIX, 18)
        news = [("wrote", version, keys) for version, keys in enumerate(table, start=1)] + [("head", 20)]
        news += [("value", key, number, number) for key in ("a", "b") for number in range(1, 11)]
        times = {key: [sum(key in keys for keys in table[:version]) for version in range(19)] for key in SIX}
        good = [version for version in range(19) if max(times["a"][version], times["b"][version]) <= 10]
        self.assertEqual(self.timed(true_versions, SIX, news, ("a", "b")), good)
        values = tuple(times[key][good[-1]] for key in ("a", "b"))
        self.assertEqual(self.timed(newest, SIX, news, ("a", "b")), (good[-1], values))
        self.assertEqual(self.timed(unsure, SIX, news, SIX, 20), list(SIX))
        untold = [key for key in SIX if key > "b" and times[key][10] > 0]
        self.assertEqual(self.timed(unsure, SIX, news, SIX, 10), untold)
        self.assertEqual(self.timed(sure_value, SIX, news, "a", good[-1]), values[0])
        self.assertIsNone(self.timed(sure_value, SIX, news, "a", 20))

    def test_six_keys_as_the_counts(self):
        draw = random.Random(103)
        for news in (forty_with_values(draw, SIX, 20), true_news(draw, SIX, 20, 40), [("head", 20)]):
            told = {piece[1:3]: piece[3] for piece in news if piece[0] == "value"}
            told.update({(key, 0): 0 for key in SIX})
            rows = []
            for version in range(reference.head_of(news) + 1):
                row = []
                for key in SIX:
                    least, greatest = self.timed(counts, SIX, news, key, version)
                    values = {told.get((key, number)) for number in range(least, greatest + 1)}
                    row.append(values.pop() if len(values) == 1 else None)
                    self.assertEqual(self.timed(sure_value, SIX, news, key, version), row[-1])
                rows.append(row)
                wanted = [key for key, value in zip(SIX, row) if value is None]
                self.assertEqual(self.timed(unsure, SIX, news, SIX, version), wanted)
            good = [version for version, row in enumerate(rows) if None not in row]
            self.assertEqual(self.timed(true_versions, SIX, news, SIX), good)
            self.assertEqual(self.timed(newest, SIX, news, SIX), (good[-1], tuple(rows[good[-1]])))

    def test_other_order_and_pieces_twice(self):
        draw = random.Random(104)
        news = forty_with_values(draw, SIX, 20)[:30]
        wanted = true_versions(SIX, news, SIX[:2]), newest(SIX, news, SIX[2:])
        for _ in range(5):
            other = mixed(draw, news)
            self.assertEqual((true_versions(SIX, other, SIX[:2]), newest(SIX, other, SIX[2:])), wanted)


class Papers(Timed):
    def check(self, shelf, news):
        """Return the kind of the paper, None if a history agrees."""
        found = self.timed(paper, shelf, news)
        self.assertIs(found is None, possible(shelf, news), news)
        if found is None:
            return None
        self.assertTrue(is_in_form(shelf, news, found), (news, found))
        self.assertTrue(says_so(shelf, news, found), (news, found))
        self.assertIs(self.timed(is_right, shelf, news, found), True, (news, found))
        return found[0]

    def test_drawn_news(self):
        draw = random.Random(105)
        seen = {None: 0, "full": 0, "empty": 0}
        for _ in range(60):
            true = tight_news(draw, SIX, 20)
            for news in (true, bent_once(draw, true), drawn_news(draw, SIX, 20, 36)[:40]):
                if not clashes(SIX, news):
                    seen[self.check(SIX, news)] += 1
        self.assertGreater(min(seen.values()), 15, seen)

    def test_numbers_that_are_not_possible(self):
        draw = random.Random(106)
        papers = 0
        for news in (tight_news(draw, SIX, 20)[:39], true_news(draw, SIX, 20, 39)):
            for key, version in itertools.product(("a", "f"), range(0, reference.head_of(news) + 1, 3)):
                least, greatest = counts(SIX, news, key, version)
                for number in range(21):
                    more = news + [("times", key, version, number)]
                    if least <= number <= greatest:
                        self.assertIsNotNone(history_with(SIX, news, key, version, number))
                    elif not clashes(SIX, more):
                        papers += 1
                        self.assertIsNotNone(self.check(SIX, more))
        self.assertGreater(papers, 100)

    def test_many_stretches(self):
        news = [("times", key, version, version // 2) for key in SIX[:4] for version in range(11, 20)]
        news += [("many", 20, 2), ("times", "e", 20, 0), ("times", "f", 20, 20)]
        self.assertEqual(len(stretches(SIX, news)), 42)
        self.assertIsNone(self.check(SIX, news))
        self.assertEqual(self.check(SIX, news + [("many", 18, 6)]), "full")
        self.assertEqual(self.check(SIX, news + [("times", "a", 20, 11)]), "empty")

    def test_all_versions_and_all_stretches(self):
        news = [("many", version, 3) for version in range(1, 21)] + [("times", key, 20, 10) for key in SIX[:5]]
        rows = tuple((key, 1, 20) for key in SIX)
        less, more = news + [("times", "f", 20, 9)], news + [("times", "f", 20, 11)]
        everything = tuple(range(1, 21))
        self.assertTrue(self.timed(is_right, SIX, less, ("full", everything, rows)))
        self.assertFalse(self.timed(is_right, SIX, less, ("full", everything[:-1], rows)))
        self.assertFalse(self.timed(is_right, SIX, more, ("full", everything, rows)))
        self.assertTrue(self.timed(is_right, SIX, more, ("empty", everything, rows)))
        self.assertFalse(self.timed(is_right, SIX, less, ("empty", everything, rows)))
        self.assertEqual((self.check(SIX, less) is None, self.check(SIX, more) is None), (False, False))


class Quarrels(Timed):
    def test_eight_pieces(self):
        news = [("times", key, 20, 3) for key in SIX] + [("head", 20), ("many", 20, 6)]
        self.assertEqual(self.timed(quarrel, SIX, news), [0, 1, 2, 3, 4, 5])
        news = [("times", key, 20, 4) for key in SIX[:5]] + [("times", "f", 20, 0), ("many", 7, 2), ("many", 9, 1)]
        self.assertEqual(self.timed(quarrel, SIX, news), [0, 1, 2, 3, 4, 5, 6])
        self.assertIsNone(self.timed(quarrel, SIX, news[:6] + news[7:]))
        self.assertEqual(self.timed(against, SIX, news[:6] + news[7:], ("many", 19, 3)), [0, 1, 2, 3, 4, 5])
        self.assertEqual(self.timed(against, SIX, news[:6] + news[7:], ("many", 9, 3)), [6])
        self.assertIsNone(self.timed(against, SIX, news[:5] + news[6:], ("did", 19, "f")))

    def test_drawn_pieces(self):
        draw = random.Random(107)
        sizes = {}
        for _ in range(60):
            table = a_table(draw, SIX, 20)
            news = [("times", key, 20, sum(key in keys for keys in table)) for key in SIX]
            at = draw.randrange(6)
            news[at] = news[at][:3] + (draw.choice((0, 1, 2, 19, 20)),)
            news += [true_piece(draw, SIX, table), ("many", draw.randint(1, 20), draw.choice((1, 6)))]
            draw.shuffle(news)
            found = self.timed(quarrel, SIX, news)
            self.assertIs(found is None, possible(SIX, news), news)
            if found is not None:
                self.assertFalse(possible(SIX, [news[at] for at in found]), news)
                for size in range(len(found) + 1):
                    for indices in itertools.combinations(range(8), size):
                        if size < len(found) or list(indices) < found:
                            self.assertTrue(possible(SIX, [news[at] for at in indices]), news)
            sizes[len(found or ())] = sizes.get(len(found or ()), 0) + 1
        self.assertGreater(len(sizes), 2, sizes)


class Clients(Timed):
    def test_forty_pieces_one_after_the_other(self):
        draw = random.Random(108)
        for draw_news in (tight_news, forty_with_values):
            news = list(dict.fromkeys(draw_news(draw, SIX, 20)))
            client = Client(SIX)
            self.assertEqual(self.timed(lambda: [client.hear(piece) for piece in news]), [True] * len(news))
            self.assertGreater(len(news), 30)
            self.assertEqual([client.hear(piece) for piece in news], [False] * len(news))
            with self.assertRaises(Contradiction):
                client.hear(("times", "a", 20, 20))
            self.assertEqual(client.head(), reference.head_of(news))
            for number in range(1, 41):
                self.assertEqual(client.change(SIX[number % 6], "add", number), number)
            version, values = self.timed(newest, SIX, news, SIX)
            added = [sum(number for number in range(1, 41) if SIX[number % 6] == key) for key in SIX]
            wanted = (version, tuple(value + more for value, more in zip(values, added)))
            self.assertEqual(self.timed(client.view, SIX), wanted)
            self.assertEqual(self.timed(client.counts, "c", 10), counts(SIX, news, "c", 10))
            self.assertEqual(self.timed(client.sure_value, "c", 10), sure_value(SIX, news, "c", 10))
            for copy in (client.fork(), Client.opened(SIX, client.state())):
                self.assertEqual(copy.state(), client.state())
            draw.shuffle(news)
            other = Client(SIX)
            self.assertEqual([other.hear(piece) for piece in news], [True] * len(news))
            self.assertEqual(other.state()[0], client.state()[0])

    def test_forty_changes_taken(self):
        client = Client(SIX)
        for number in range(1, 41):
            client.change(SIX[number % 6], "set", number)
        start = time.perf_counter()
        for number in range(40, 0, -1):
            self.assertIsNone(client.taken(number, (number + 1) // 2))
        self.assertLess(time.perf_counter() - start, SECONDS)
        self.assertEqual(client.open_changes(), [])
        self.assertEqual(len(client.state()[0]), 40)
        self.assertEqual(client.head(), 20)
        self.assertEqual(client.change("a", "set", 1), 41)


if __name__ == "__main__":
    unittest.main()
