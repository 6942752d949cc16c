"""Issue 5, promises 1, 3, 4 and 5: the same as an enumeration of all tables of commits tells."""

import random
import unittest

from suresnap.counts import counts, history_with
from suresnap.tables import first_history, possible
from tests import reference
from tests.drawing import SHELVES, any_piece, drawn_news, mixed, true_news
from tests.enumeration import every


class AsTheEnumeration(unittest.TestCase):
    def numbers_hold(self, shelf, news, all_numbers):
        tables = every(shelf, news)
        found = tables.agreeing(news)
        for key in shelf:
            for version in range(tables.versions + 1):
                numbers = tables.numbers(found, key, version)
                wanted = (numbers[0], numbers[-1])
                self.assertEqual(len(numbers), numbers[-1] - numbers[0] + 1)
                self.assertEqual(counts(shelf, news, key, version), wanted, (shelf, news, key, version))
                for number in range(21) if all_numbers else ():
                    one = found & tables.true_of(("times", key, version, number))
                    history = history_with(shelf, news, key, version, number)
                    self.assertEqual(history, tables.first(one, news), (shelf, news, key, version, number))

    def check(self, shelf, news, all_numbers):
        """Return whether a history agrees, after all answers were found right."""
        tables = every(shelf, news)
        found = tables.agreeing(news)
        copy = list(news)
        self.assertIs(possible(shelf, news), found != 0, (shelf, news))
        if found:
            first = tables.first(found, news)
            self.assertEqual(first_history(shelf, news), first, (shelf, news))
            self.assertTrue(reference.agrees(shelf, first, news), (shelf, news))
            self.numbers_hold(shelf, news, all_numbers)
        self.assertEqual(news, copy)
        return found != 0

    def test_possible_first_history_and_counts(self):
        draw = random.Random(53)
        answers = {True: 0, False: 0}
        for _ in range(6000):
            shelf = draw.choice(SHELVES)
            news = drawn_news(draw, shelf, draw.randint(0, 4), draw.randint(1, 9))
            answers[self.check(shelf, news, False)] += 1
        self.assertGreater(min(answers.values()), 1000, answers)

    def test_history_with_every_number(self):
        draw = random.Random(54)
        for _ in range(500):
            shelf = draw.choice(SHELVES)
            self.check(shelf, drawn_news(draw, shelf, draw.randint(0, 4), draw.randint(1, 9)), True)

    def test_true_news_is_possible(self):
        draw = random.Random(55)
        for _ in range(500):
            shelf = draw.choice(SHELVES)
            self.assertTrue(self.check(shelf, true_news(draw, shelf, draw.randint(0, 4), draw.randint(1, 20)), False))


class Invariance(unittest.TestCase):
    def answers(self, shelf, news):
        if not possible(shelf, news):
            return None
        head = reference.head_of(news)
        table = [counts(shelf, news, key, version) for key in shelf for version in range(head + 1)]
        return first_history(shelf, news), table

    def test_other_order_and_pieces_twice(self):
        draw = random.Random(56)
        for _ in range(600):
            shelf = draw.choice(SHELVES + (("a", "b", "c", "d"),))
            news = drawn_news(draw, shelf, draw.randint(0, 8), draw.randint(1, 12))
            wanted = self.answers(shelf, news)
            for _ in range(3):
                other = mixed(draw, news)
                self.assertEqual(self.answers(shelf, other), wanted, (shelf, news, other))
            self.assertEqual(self.answers(shelf, sorted(set(news), key=str)), wanted, (shelf, news))

    def test_one_piece_more_narrows(self):
        draw = random.Random(57)
        narrowed = 0
        for _ in range(3000):
            shelf = draw.choice(SHELVES)
            versions = draw.randint(0, 6)
            news = true_news(draw, shelf, versions, draw.randint(1, 8))
            more = news + [any_piece(draw, shelf, versions + draw.randint(0, 1))]
            if not possible(shelf, more):
                continue
            for key in shelf:
                for version in range(versions + 1):
                    least, greatest = counts(shelf, news, key, version)
                    low, high = counts(shelf, more, key, version)
                    self.assertTrue(least <= low <= high <= greatest, (shelf, news, more))
                    narrowed += (least, greatest) != (low, high)
        self.assertGreater(narrowed, 1000)


if __name__ == "__main__":
    unittest.main()
