"""Issue 8, promises 3 to 5: papers and quarrels, as an enumeration of all tables and of all papers tells."""

import itertools
import random
import unittest

from suresnap.bounds import clashes
from suresnap.papers import is_right, paper
from suresnap.quarrels import against, quarrel
from tests import enumeration, reference
from tests.drawing import SHELVES, any_piece, bent_news, drawn_news, mixed, strained_news, true_news
from tests.enumeration import every, is_in_form, least_quarrel, says_so


def subsets(draw, things):
    """Some of these things, in order."""
    share = draw.random()
    return tuple(thing for thing in things if draw.random() < share)


def parts_of(shelf, news):
    """The versions and the stretches of news, as papers name them."""
    rows = [row[:3] for row in enumeration.stretches(shelf, news)]
    return range(1, reference.head_of(news) + 1), rows


def bent(draw, shelf, news, found):
    """A paper with another kind, or with one version or one stretch more or less."""
    kind, versions, chosen = found
    all_versions, rows = parts_of(shelf, news)
    if draw.random() < 0.1:
        return ("full" if kind == "empty" else "empty", versions, chosen)
    if draw.random() < 0.5:
        other = draw.choice(all_versions)
        return (kind, tuple(one for one in all_versions if (one in versions) != (one == other)), chosen)
    other = draw.choice(rows)
    return (kind, versions, tuple(one for one in rows if (one in chosen) != (one == other)))


def all_papers(shelf, news):
    versions, rows = parts_of(shelf, news)
    for kind in ("full", "empty"):
        for some in itertools.product((0, 1), repeat=len(versions)):
            for others in itertools.product((0, 1), repeat=len(rows)):
                yield (kind, tuple(itertools.compress(versions, some)), tuple(itertools.compress(rows, others)))


def some_news(draw, shelf, versions):
    """News of at most so many versions, with which often no history agrees though it does not clash."""
    if draw.random() < 0.5:
        return strained_news(draw, shelf, draw.randint(1, versions), 10)
    return drawn_news(draw, shelf, draw.randint(0, versions), draw.randint(1, 9))


class Papers(unittest.TestCase):
    def check(self, shelf, news):
        """Return what was found: "history", "clash" or the kind of the paper."""
        copy = list(news)
        found = paper(shelf, news)
        self.assertEqual(news, copy)
        agrees = every(shelf, news).agreeing(news) != 0
        if agrees or enumeration.clashes(shelf, news):
            self.assertIsNone(found, (shelf, news))
            return "history" if agrees else "clash"
        self.assertTrue(is_in_form(shelf, news, found), (shelf, news, found))
        self.assertTrue(says_so(shelf, news, found), (shelf, news, found))
        self.assertIs(is_right(shelf, news, found), True, (shelf, news, found))
        return found[0]

    def test_paper(self):
        draw = random.Random(91)
        seen = {"history": 0, "clash": 0, "full": 0, "empty": 0}
        for _ in range(6000):
            shelf = draw.choice(SHELVES)
            news = some_news(draw, shelf, 4)
            seen[self.check(shelf, news)] += 1
        self.assertGreater(min(seen.values()), 200, seen)

    def test_paper_in_other_orders(self):
        draw = random.Random(92)
        for _ in range(400):
            shelf = draw.choice(SHELVES)
            news = strained_news(draw, shelf, draw.randint(1, 4), 10)
            wanted = paper(shelf, news) is None
            for _ in range(4):
                other = mixed(draw, news)
                self.check(shelf, other)
                self.assertIs(paper(shelf, other) is None, wanted)


class IsRight(unittest.TestCase):
    def test_drawn_papers(self):
        draw = random.Random(93)
        seen = {True: 0, False: 0}
        for _ in range(4000):
            shelf = draw.choice(SHELVES)
            news = some_news(draw, shelf, 4)
            if clashes(shelf, news) or reference.head_of(news) == 0:
                continue
            versions, rows = parts_of(shelf, news)
            papers = [(draw.choice(("full", "empty")), subsets(draw, versions), subsets(draw, rows))]
            right = paper(shelf, news)
            if right is not None:
                papers += [right] + [bent(draw, shelf, news, right) for _ in range(4)]
                papers.append(bent(draw, shelf, news, papers[-1]))
            for one in papers:
                wanted = says_so(shelf, news, one)
                self.assertIs(is_right(shelf, news, one), wanted, (shelf, news, one))
                seen[wanted] += 1
        self.assertGreater(min(seen.values()), 1000, seen)

    def test_all_papers(self):
        draw = random.Random(94)
        seen = {True: 0, False: 0}
        for _ in range(150):
            shelf = draw.choice(SHELVES[:4])
            news = some_news(draw, shelf, 3)
            if clashes(shelf, news) or len(parts_of(shelf, news)[1]) > 5:
                continue
            right = [one for one in all_papers(shelf, news) if says_so(shelf, news, one)]
            found = [one for one in all_papers(shelf, news) if is_right(shelf, news, one)]
            self.assertEqual(found, right, (shelf, news))
            agrees = every(shelf, news).agreeing(news) != 0
            self.assertIs(found == [], agrees, (shelf, news))
            seen[agrees] += 1
        self.assertGreater(min(seen.values()), 20, seen)


class Quarrels(unittest.TestCase):
    def eight_pieces(self, draw, shelf):
        """At most eight pieces, some of them twice."""
        kind = draw.choice((true_news, bent_news, strained_news, strained_news))
        news = kind(draw, shelf, draw.randint(1, 4), 8)
        if draw.random() < 0.4:
            news = news[1:] + [any_piece(draw, shelf, 4, 0.1)]
        draw.shuffle(news)
        if draw.random() < 0.3:
            news[draw.randrange(len(news))] = draw.choice(news)
        return news

    def test_quarrel(self):
        draw = random.Random(95)
        seen = {None: 0, 1: 0, 2: 0, 3: 0, 4: 0}
        for _ in range(1500):
            shelf = draw.choice(SHELVES)
            news = self.eight_pieces(draw, shelf)
            copy = list(news)
            found = quarrel(shelf, news)
            self.assertEqual(found, least_quarrel(shelf, news), (shelf, news))
            self.assertEqual(news, copy)
            size = None if found is None else min(len(found), 4)
            seen[size] += 1
        self.assertGreater(min(seen.values()), 5, seen)

    def test_against(self):
        draw = random.Random(96)
        seen = {None: 0, 0: 0, 1: 0, 2: 0, 3: 0}
        for _ in range(2500):
            shelf = draw.choice(SHELVES)
            news = strained_news(draw, shelf, draw.randint(1, 4), 9)
            piece = news.pop() if draw.random() < 0.7 else any_piece(draw, shelf, 4)
            news = news[:8]
            if not every(shelf, news).agreeing(news):
                continue
            copy = list(news)
            found = against(shelf, news, piece)
            self.assertEqual(found, least_quarrel(shelf, news, [piece]), (shelf, news, piece))
            self.assertEqual(news, copy)
            seen[None if found is None else min(len(found), 3)] += 1
        self.assertGreater(min(seen.values()), 20, seen)

    def test_against_news_that_quarrels(self):
        draw = random.Random(97)
        for _ in range(300):
            shelf = draw.choice(SHELVES)
            news = self.eight_pieces(draw, shelf)
            piece = any_piece(draw, shelf, 4)
            self.assertEqual(against(shelf, news, piece), least_quarrel(shelf, news, [piece]), (shelf, news, piece))


if __name__ == "__main__":
    unittest.main()
