"""Issue 5: the five promises at the document's limits, where an enumeration would not come back."""

import random
import unittest

from suresnap.bounds import clashes, stretches
from suresnap.counts import counts, history_with
from suresnap.tables import first_history, possible
from tests import reference
from tests.drawing import SIX, THREE, bent_news, bent_once, drawn_news, tight_news, true_news
from tests.enumeration import Sweep, has_paper


class ThreeKeysTwentyVersions(unittest.TestCase):
    def check(self, news):
        sweep = Sweep(THREE, news)
        self.assertIs(possible(THREE, news), sweep.possible(), news)
        if not sweep.possible():
            return False
        self.assertEqual(first_history(THREE, news), sweep.first(), news)
        for key in THREE:
            for version in range(sweep.versions + 1):
                self.assertEqual(counts(THREE, news, key, version), sweep.counts(key, version), (news, key, version))
        return True

    def test_true_news(self):
        draw = random.Random(58)
        for pieces in (1, 5, 10, 20, 30, 40, 40, 40):
            news = true_news(draw, THREE, 20, pieces)
            self.assertLessEqual(len(news), 40)
            self.assertTrue(self.check(news))

    def test_bent_news(self):
        draw = random.Random(59)
        answers = {True: 0, False: 0}
        for _ in range(60):
            news = bent_news(draw, THREE, 20, draw.choice((20, 40)))
            if not clashes(THREE, news):
                answers[self.check(news)] += 1
            answers[self.check(bent_once(draw, tight_news(draw, THREE, 20)))] += 1
        self.assertGreater(min(answers.values()), 5, answers)

    def test_history_with(self):
        draw = random.Random(60)
        for _ in range(6):
            news = true_news(draw, THREE, 20, 39)
            for number in range(21):
                key, version = draw.choice(THREE), draw.randint(0, 20)
                told = news + [("times", key, version, number)]
                sweep = Sweep(THREE, told)
                wanted = sweep.first() if sweep.possible() else None
                self.assertEqual(history_with(THREE, news, key, version, number), wanted, told)


class SixKeys(unittest.TestCase):
    def compare(self, shelf, news):
        wanted = not has_paper(shelf, news)
        self.assertIs(possible(shelf, news), wanted, news)
        return wanted

    def test_possible_as_the_papers_tell(self):
        draw = random.Random(61)
        answers = {True: 0, False: 0}
        for versions in (10, 20):
            for _ in range(30):
                true = tight_news(draw, SIX, versions)
                self.assertTrue(possible(SIX, true), true)
                for news in (true, bent_once(draw, true), bent_once(draw, bent_once(draw, true))):
                    if not clashes(SIX, news):
                        answers[self.compare(SIX, news)] += 1
        self.assertGreater(min(answers.values()), 30, answers)

    def test_ten_versions_with_many_times(self):
        draw = random.Random(62)
        answers = {True: 0, False: 0}
        for _ in range(150):
            news = drawn_news(draw, SIX, 10, draw.choice((12, 25, 36)))[:40]
            if not clashes(SIX, news):
                answers[self.compare(SIX, news)] += 1
        self.assertGreater(min(answers.values()), 10, answers)

    def test_four_versions_as_the_sweep(self):
        draw = random.Random(63)
        for pieces in (2, 4, 6, 9, 14):
            news = true_news(draw, SIX, 4, pieces)
            sweep = Sweep(SIX, news)
            self.assertEqual(first_history(SIX, news), sweep.first(), news)
            for key in SIX:
                for version in range(5):
                    self.assertEqual(counts(SIX, news, key, version), sweep.counts(key, version), news)

    def test_first_history_leaves_out_all_that_can_be(self):
        draw = random.Random(64)
        for versions in (10, 20):
            for news in (true_news(draw, SIX, versions, 25), tight_news(draw, SIX, versions)):
                history = first_history(SIX, news)
                self.assertTrue(reference.agrees(SIX, history, news), news)
                held = list(news)
                for version, commit in enumerate(history, start=1):
                    wrote = [key for key, _ in commit]
                    for key in SIX:
                        without = ("among", version, tuple(other for other in SIX if other != key))
                        self.assertIs(possible(SIX, held + [without]), key not in wrote, (news, version, key))
                        held.append(("did", version, key) if key in wrote else without)

    def test_counts_and_history_with_tell_the_same(self):
        draw = random.Random(65)
        for versions in (10, 20):
            for news in (true_news(draw, SIX, versions, 20), tight_news(draw, SIX, versions)):
                for key in ("a", "d", "f"):
                    for version in (0, 1, versions // 2 - 1, versions - 3, versions):
                        least, greatest = counts(SIX, news, key, version)
                        for number in range(21):
                            history = history_with(SIX, news, key, version, number)
                            self.assertIs(history is not None, least <= number <= greatest, (news, key, version))
                            if history is not None:
                                told = news + [("times", key, version, number)]
                                self.assertTrue(reference.agrees(SIX, history, told), told)

    def test_each_commit_of_three_keys(self):
        news = [("many", version, 3) for version in range(1, 21)]
        times = [("times", key, 20, 10) for key in SIX]
        self.assertTrue(possible(SIX, news + times))
        self.assertFalse(possible(SIX, news + times[:5] + [("times", "f", 20, 9)]))
        self.assertFalse(possible(SIX, news + times[:5] + [("times", "f", 20, 11)]))
        self.assertEqual(counts(SIX, news + times[:5], "f", 20), (10, 10))
        self.assertEqual(counts(SIX, news + times[:4], "f", 20), (0, 20))
        self.assertEqual(counts(SIX, news + times[:4], "f", 10), (0, 10))
        self.assertEqual(counts(SIX, news + times, "f", 10), (0, 10))
        self.assertEqual(counts(SIX, news + times, "f", 15), (5, 10))
        low, high = (("d", 0), ("e", 0), ("f", 0)), (("a", 0), ("b", 0), ("c", 0))
        self.assertEqual(first_history(SIX, news + times), [low] * 10 + [high] * 10)
        self.assertEqual(history_with(SIX, news + times, "f", 10, 10), [low] * 10 + [high] * 10)
        other = [(("c", 0), ("d", 0), ("e", 0))] * 10 + [(("a", 0), ("b", 0), ("f", 0))] * 10
        self.assertEqual(history_with(SIX, news + times, "f", 10, 0), other)
        self.assertIsNone(history_with(SIX, news + times, "f", 10, 11))
        self.assertIsNone(history_with(SIX, news + times, "f", 9, 10))

    def test_forty_times(self):
        news = [("times", key, version, version // 2) for key in SIX[:4] for version in range(11, 21)]
        self.assertEqual(len(stretches(SIX, news)), 42)
        self.assertTrue(possible(SIX, news))
        self.assertEqual(counts(SIX, news, "a", 10), (4, 5))
        self.assertEqual(counts(SIX, news, "a", 13), (6, 6))
        self.assertEqual(counts(SIX, news, "f", 20), (0, 20))
        self.assertTrue(reference.agrees(SIX, first_history(SIX, news), news))
        self.assertEqual(first_history(SIX, news)[12:14], [(("f", 0),), (("a", 0), ("b", 0), ("c", 0), ("d", 0))])

    def test_somewhat_beyond_the_limits(self):
        shelf = SIX + ("g", "verylongkey")
        news = [("many", version, 4) for version in range(1, 25)] + [("times", key, 24, 12) for key in shelf]
        news += [("value", "verylongkey", 21, 2000000)] * 20
        self.assertGreater(len(news), 40)
        self.assertTrue(possible(shelf, news))
        self.assertEqual(counts(shelf, news, "verylongkey", 12), (0, 12))
        self.assertTrue(reference.agrees(shelf, first_history(shelf, news), news))
        self.assertEqual(history_with(shelf, news, "a", 24, 12), first_history(shelf, news))
        self.assertIsNone(history_with(shelf, news, "a", 24, 25))


if __name__ == "__main__":
    unittest.main()
