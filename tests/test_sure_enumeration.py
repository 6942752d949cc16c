"""Issue 8, promises 1, 2 and 9: what is sure, as an enumeration of all tables of commits tells."""

import random
import unittest

from suresnap.bounds import clashes
from suresnap.counts import counts, history_with
from suresnap.papers import is_right, paper
from suresnap.sure import newest, sure_value, true_versions, unsure
from suresnap.tables import possible
from tests import reference
from tests.drawing import SHELVES, a_table, drawn_news, mixed, told_news, true_news, true_piece, views_of
from tests.enumeration import every, says_so, with_values


def some_news(draw, shelf):
    """News of up to four versions, with many values told or with few."""
    versions = draw.randint(0, 4)
    if draw.random() < 0.5:
        return told_news(draw, shelf, versions, draw.randint(1, 6))
    return drawn_news(draw, shelf, versions, draw.randint(1, 9))


class AsTheEnumeration(unittest.TestCase):
    def sure_of(self, shelf, news):
        """For each version a dict of the sure values of the keys."""
        tables = every(shelf, news)
        found = tables.agreeing(news)
        versions = range(tables.versions + 1)
        return [{key: tables.value(found, news, key, version) for key in shelf} for version in versions]

    def views_hold(self, shelf, news, sure):
        for view in views_of(shelf):
            good = [at for at, values in enumerate(sure) if None not in [values[key] for key in view]]
            self.assertEqual(true_versions(shelf, news, view), good, (shelf, news, view))
            wanted = (good[-1], tuple(sure[good[-1]][key] for key in view))
            self.assertEqual(newest(shelf, news, view), wanted, (shelf, news, view))
            for version, values in enumerate(sure):
                wanted = [key for key in view if values[key] is None]
                self.assertEqual(unsure(shelf, news, view, version), wanted, (shelf, news, view, version))

    def test_every_key_view_and_version(self):
        draw = random.Random(71)
        told = {True: 0, False: 0}
        for _ in range(2500):
            shelf = draw.choice(SHELVES)
            news = some_news(draw, shelf)
            if not every(shelf, news).agreeing(news):
                continue
            sure = self.sure_of(shelf, news)
            copy = list(news)
            for version, values in enumerate(sure):
                for key in shelf:
                    found = sure_value(shelf, news, key, version)
                    self.assertEqual(found, values[key], (shelf, news, key, version))
                    self.assertIs(found is None, values[key] is None)
                    told[found is None] += version > 0
            self.views_hold(shelf, news, sure)
            self.assertEqual(news, copy)
        self.assertGreater(min(told.values()), 2000, told)

    def test_values_of_walks_through_all_histories(self):
        draw = random.Random(72)
        for _ in range(400):
            shelf = draw.choice(SHELVES)
            news = [piece for piece in some_news(draw, shelf) if reference.head_of([piece]) < 4]
            tables = every(shelf, news).members(every(shelf, news).agreeing(news))
            if not 0 < len(tables) < 60:
                continue
            walks = [reference.walk(with_values(table, news, other), shelf)[0]
                     for table in tables for other in (10 ** 7, 10 ** 8)]
            for version in range(reference.head_of(news) + 1):
                for key in shelf:
                    values = {walk[version][key][1] for walk in walks}
                    wanted = values.pop() if len(values) == 1 else None
                    self.assertEqual(sure_value(shelf, news, key, version), wanted, (shelf, news, key, version))


class WhatIsShown(unittest.TestCase):
    def test_each_number_has_a_history_or_a_paper(self):
        draw = random.Random(73)
        papers = 0
        for _ in range(150):
            shelf = draw.choice(SHELVES)
            news = true_news(draw, shelf, draw.randint(0, 4), draw.randint(1, 8))
            for key in shelf:
                for version in range(reference.head_of(news) + 1):
                    least, greatest = counts(shelf, news, key, version)
                    for number in range(21):
                        more = news + [("times", key, version, number)]
                        if least <= number <= greatest:
                            history = history_with(shelf, news, key, version, number)
                            self.assertTrue(reference.agrees(shelf, history, more), more)
                            self.assertIsNone(paper(shelf, more))
                            continue
                        self.assertIsNone(history_with(shelf, news, key, version, number))
                        if not clashes(shelf, more):
                            papers += 1
                            self.assertTrue(says_so(shelf, more, paper(shelf, more)), more)
                            self.assertTrue(is_right(shelf, more, paper(shelf, more)), more)
        self.assertGreater(papers, 3000)


class Invariance(unittest.TestCase):
    def answers(self, shelf, news):
        versions = range(reference.head_of(news) + 1)
        rows = [(counts(shelf, news, key, version), sure_value(shelf, news, key, version))
                for key in shelf for version in versions]
        views = [(true_versions(shelf, news, view), newest(shelf, news, view)) for view in views_of(shelf)]
        return rows, views

    def test_other_order_and_pieces_twice(self):
        draw = random.Random(74)
        for _ in range(200):
            shelf = draw.choice(SHELVES + (("a", "b", "c", "d"),))
            news = told_news(draw, shelf, draw.randint(0, 8), draw.randint(1, 12))
            wanted = self.answers(shelf, news)
            for _ in range(2):
                other = mixed(draw, news)
                self.assertEqual(self.answers(shelf, other), wanted, (shelf, news, other))
            self.assertEqual(self.answers(shelf, sorted(set(news), key=str)), wanted, (shelf, news))

    def test_one_true_piece_more(self):
        draw = random.Random(75)
        seen = {"numbers": 0, "values": 0, "versions": 0}
        for _ in range(1200):
            shelf = draw.choice(SHELVES)
            table = a_table(draw, shelf, draw.randint(1, 6))
            # The values of one and the same key and number agree, so that all of these are true together.
            news = [true_piece(draw, shelf, table) for _ in range(draw.randint(1, 12))]
            more = news + [true_piece(draw, shelf, table)]
            self.assertTrue(possible(shelf, more), more)
            self.narrows(shelf, news, more, seen)
        self.assertGreater(min(seen.values()), 100, seen)

    def narrows(self, shelf, news, more, seen):
        for key in shelf:
            for version in range(reference.head_of(news) + 1):
                (least, greatest), (low, high) = [counts(shelf, one, key, version) for one in (news, more)]
                self.assertTrue(least <= low <= high <= greatest, (shelf, news, more))
                before, after = [sure_value(shelf, one, key, version) for one in (news, more)]
                self.assertIn(before, (None, after), (shelf, news, more))
                seen["numbers"] += (least, greatest) != (low, high)
                seen["values"] += before != after
        for view in views_of(shelf):
            before, after = [newest(shelf, one, view)[0] for one in (news, more)]
            self.assertLessEqual(before, after, (shelf, news, more))
            seen["versions"] += before < after


if __name__ == "__main__":
    unittest.main()
