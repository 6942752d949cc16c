"""Issue 8, promises 6, 7 and 8: the client (points 13 to 15 and its interface)."""

import random
import unittest

from suresnap.client import Client
from suresnap.errors import Contradiction, NoSuchChange, SnapError
from suresnap.news import print_news
from tests.drawing import SHELVES, any_piece, drawn_news, some_keys
from tests.enumeration import every

SHELF = ("a", "b")
WROTE = ("wrote", 1, ("a", "b"))
VALUES = [("value", "a", 1, 10), ("value", "b", 1, 20)]


def told(*news, shelf=SHELF):
    """A client that has heard these pieces."""
    client = Client(shelf)
    for piece in news:
        client.hear(piece)
    return client


class Hear(unittest.TestCase):
    def test_nothing_heard(self):
        client = Client(SHELF)
        self.assertEqual(client.head(), 0)
        self.assertEqual(client.counts("a", 0), (0, 0))
        self.assertEqual(client.sure_value("a", 0), 0)
        self.assertEqual(client.view(SHELF), (0, (0, 0)))
        self.assertEqual(client.open_changes(), [])
        self.assertEqual(client.state(), ((), (), 1))

    def test_new_and_heard_before(self):
        client = Client(SHELF)
        self.assertIs(client.hear(("did", 2, "a")), True)
        self.assertIs(client.hear(("did", 2, "a")), False)
        self.assertIs(client.hear(("head", 1)), True)
        self.assertIs(client.hear(("head", 1)), False)
        self.assertIs(client.hear(("did", 2, "a")), False)
        self.assertEqual(client.state()[0], (("did", 2, "a"), ("head", 1)))

    def test_piece_that_proves_nothing_new(self):
        client = told(WROTE)
        for piece in (("did", 1, "a"), ("many", 1, 2), ("among", 1, SHELF), ("times", "a", 1, 1), ("head", 0),
                      ("value", "a", 2, 9), ("value", "zz", 1, 9), ("times", "b", 0, 0)):
            self.assertIs(client.hear(piece), True, piece)
            self.assertIs(client.hear(piece), False, piece)
        self.assertEqual(len(client.state()[0]), 9)

    def test_contradictions_change_nothing(self):
        client = told(WROTE, ("times", "a", 3, 2), *VALUES)
        client.change("a", "set", 4)
        before = client.state()
        for piece in (("many", 1, 1), ("times", "a", 3, 1), ("value", "a", 1, 11), ("did", 2, "zz"), ("many", 2, 3),
                      ("among", 2, ("a", "zz")), ("times", "a", 20, 1), ("times", "a", 3, 20), ("times", "b", 0, 1)):
            for _ in range(2):
                with self.assertRaises(Contradiction):
                    client.hear(piece)
                self.assertEqual(client.state(), before)
                self.assertEqual((client.head(), client.open_changes()), (3, [1]))
        self.assertIs(client.hear(("did", 2, "a")), True)

    def test_contradiction_of_news_that_does_not_clash(self):
        client = told(("did", 1, "a"), ("did", 2, "a"))
        with self.assertRaises(SnapError):
            client.hear(("times", "a", 3, 1))
        self.assertEqual(client.head(), 2)
        self.assertIs(client.hear(("times", "a", 3, 2)), True)
        self.assertEqual(client.head(), 3)

    def test_head_counts_and_sure_value(self):
        client = told(("many", 1, 1), ("wrote", 2, ("a",)), ("times", "b", 3, 2))
        self.assertEqual(client.head(), 3)
        self.assertEqual([client.counts("a", version) for version in range(4)], [(0, 0), (0, 0), (1, 1), (1, 2)])
        self.assertEqual([client.sure_value("a", version) for version in range(4)], [0, 0, None, None])
        client.hear(("value", "a", 1, 7))
        self.assertEqual([client.sure_value("a", version) for version in range(4)], [0, 0, 7, None])
        client.hear(("value", "a", 2, 7))
        self.assertEqual([client.sure_value("a", version) for version in range(4)], [0, 0, 7, 7])

    def test_clients_do_not_share_what_they_heard(self):
        one, other = Client(SHELF), Client(SHELF)
        one.hear(("head", 3))
        one.change("a", "add", 1)
        self.assertEqual(other.state(), ((), (), 1))


class Changes(unittest.TestCase):
    def test_numbers(self):
        client = Client(SHELF)
        self.assertEqual([client.change("a", "set", 5), client.change("a", "set", 5)], [1, 2])
        self.assertIsNone(client.refused(2))
        self.assertEqual(client.change("b", "add", -5), 3)
        self.assertIsNone(client.taken(1, 4))
        self.assertIsNone(client.taken(3, 4))
        self.assertEqual(client.open_changes(), [])
        self.assertEqual(client.change("b", "add", 0), 4)
        self.assertEqual(client.open_changes(), [4])
        self.assertEqual(client.state(), ((("did", 4, "a"), ("did", 4, "b")), ((4, "b", "add", 0),), 5))

    def test_open_changes_is_new(self):
        client = Client(SHELF)
        client.change("a", "set", 5)
        client.open_changes().append(9)
        client.open_changes().clear()
        self.assertEqual(client.open_changes(), [1])

    def test_set_and_add_are_done_in_order(self):
        client = told(WROTE, *VALUES)
        self.assertEqual(client.view(SHELF), (1, (10, 20)))
        client.change("a", "add", 5)
        self.assertEqual(client.view(SHELF), (1, (15, 20)))
        client.change("a", "set", 100)
        client.change("b", "add", -50)
        client.change("a", "add", 1)
        self.assertEqual(client.view(SHELF), (1, (101, -30)))
        client.refused(2)
        self.assertEqual(client.view(SHELF), (1, (16, -30)))
        client.change("a", "set", 0)
        self.assertEqual(client.view(SHELF), (1, (0, -30)))
        self.assertEqual(client.open_changes(), [1, 3, 4, 5])

    def test_change_of_a_key_outside_of_the_view(self):
        client = told(WROTE, *VALUES)
        client.change("a", "set", 1)
        client.change("b", "add", 1)
        self.assertEqual(client.view(("b",)), (1, (21,)))
        self.assertEqual(client.view(("a",)), (1, (1,)))

    def test_changes_stand_on_the_newest_version_of_the_view(self):
        client = told(WROTE, *VALUES, ("did", 2, "a"))
        client.change("a", "add", 1)
        self.assertEqual(client.view(SHELF), (1, (11, 20)))
        client.hear(("value", "a", 2, 50))
        self.assertEqual(client.view(("a",)), (2, (51,)))
        self.assertEqual(client.view(SHELF), (1, (11, 20)))
        client.hear(("many", 2, 1))
        self.assertEqual(client.view(SHELF), (2, (51, 20)))

    def test_changes_make_nothing_sure(self):
        client = told(("did", 1, "a"))
        client.change("a", "set", 7)
        self.assertIsNone(client.sure_value("a", 1))
        self.assertEqual(client.view(("a",)), (0, (7,)))

    def test_view_changes_nothing(self):
        client = told(WROTE, *VALUES)
        client.change("a", "add", 1)
        before = client.state()
        self.assertEqual([client.view(SHELF) for _ in range(3)], [(1, (11, 20))] * 3)
        self.assertEqual(client.state(), before)

    def test_taken(self):
        client = told(("head", 2))
        client.change("b", "set", 3)
        self.assertIsNone(client.taken(1, 4))
        self.assertEqual(client.open_changes(), [])
        self.assertEqual(client.head(), 4)
        self.assertEqual(client.state(), ((("did", 4, "b"), ("head", 2)), (), 2))
        self.assertIs(client.hear(("did", 4, "b")), False)
        self.assertEqual(client.counts("b", 4), (1, 4))

    def test_taken_by_a_piece_that_was_heard_before(self):
        client = told(("did", 4, "b"))
        client.change("b", "set", 3)
        client.change("b", "set", 4)
        self.assertIsNone(client.taken(1, 4))
        self.assertIsNone(client.taken(2, 4))
        self.assertEqual(client.state(), ((("did", 4, "b"),), (), 3))

    def test_taken_by_a_contradiction(self):
        client = told(("wrote", 1, ("a",)), ("times", "b", 3, 0))
        client.change("b", "add", 3)
        before = client.state()
        for version in (1, 2, 3):
            with self.assertRaises(Contradiction):
                client.taken(1, version)
            self.assertEqual(client.state(), before)
            self.assertEqual((client.open_changes(), client.head()), ([1], 3))
        self.assertEqual(client.view(("b",)), (3, (3,)))
        self.assertIsNone(client.taken(1, 4))
        self.assertEqual(client.open_changes(), [])

    def test_no_such_change(self):
        client = told(("wrote", 1, ("a",)))
        for number in (0, 1, -1, 20):
            with self.assertRaises(NoSuchChange):
                client.refused(number)
            with self.assertRaises(NoSuchChange):
                client.taken(number, 2)
        client.change("b", "set", 3)
        client.change("b", "set", 4)
        client.refused(1)
        client.taken(2, 3)
        before = client.state()
        for number in (1, 2, 3):
            with self.assertRaises(NoSuchChange):
                client.refused(number)
            # The version would contradict what was heard; that there is no change comes first.
            with self.assertRaises(NoSuchChange):
                client.taken(number, 1)
            with self.assertRaises(NoSuchChange):
                client.taken(number, 20)
        self.assertEqual(client.state(), before)

    def test_refused_hears_nothing(self):
        client = Client(SHELF)
        client.change("a", "set", 3)
        self.assertIsNone(client.refused(1))
        self.assertEqual(client.state(), ((), (), 2))
        self.assertEqual(client.view(("a",)), (0, (0,)))


class States(unittest.TestCase):
    def test_heard_stands_in_the_order_of_the_texts(self):
        news = [("did", 10, "a"), ("did", 2, "a"), ("times", "a", 1, 0), ("head", 3), ("value", "b", 1, 5),
                ("value", "b", 10, 5), ("value", "b", 2, -5), ("among", 2, SHELF), ("many", 12, 1), ("head", 12)]
        wanted = tuple(sorted(news, key=lambda piece: print_news([piece])))
        self.assertEqual(wanted[:4], (("did", 10, "a"), ("many", 12, 1), ("among", 2, SHELF), ("did", 2, "a")))
        draw = random.Random(81)
        for _ in range(20):
            draw.shuffle(news)
            client = told(*news, *news[:4])
            self.assertEqual(client.state(), (wanted, (), 1))
            self.assertIs(type(client.state()[0]), tuple)

    def test_changes_stand_ascending(self):
        client = Client(SHELF)
        for key, how, number in (("b", "set", 4), ("a", "add", -1), ("b", "add", 0), ("a", "set", 9)):
            client.change(key, how, number)
        client.refused(2)
        self.assertEqual(client.state(), ((), ((1, "b", "set", 4), (3, "b", "add", 0), (4, "a", "set", 9)), 5))

    def test_fork(self):
        client = told(WROTE, *VALUES)
        client.change("a", "add", 1)
        client.change("b", "set", 2)
        client.refused(1)
        fork = client.fork()
        self.assertIsInstance(fork, Client)
        state = client.state()
        self.assertEqual(fork.state(), state)
        self.assertEqual(fork.view(SHELF), (1, (10, 2)))
        fork.hear(("head", 7))
        self.assertEqual(fork.change("a", "set", 0), 3)
        fork.refused(2)
        self.assertEqual(client.state(), state)
        self.assertEqual((client.head(), client.open_changes(), client.view(SHELF)), (1, [2], (1, (10, 2))))
        changed = fork.state()
        client.hear(("did", 2, "a"))
        client.taken(2, 2)
        self.assertEqual(client.change("b", "add", 1), 3)
        self.assertEqual(fork.state(), changed)

    def test_opened(self):
        client = told(WROTE, *VALUES)
        client.change("a", "add", 1)
        client.change("b", "set", 2)
        state = client.state()
        one = Client.opened(SHELF, state)
        other = client.opened(SHELF, state)
        self.assertIsInstance(one, Client)
        self.assertEqual((one.state(), other.state()), (state, state))
        self.assertIs(one.hear(WROTE), False)
        one.refused(1)
        one.hear(("head", 2))
        with self.assertRaises(Contradiction):
            other.hear(("many", 1, 1))
        self.assertIs(other.hear(("head", 2)), True)
        other.taken(2, 2)
        self.assertEqual(client.state(), state)
        self.assertEqual(one.state()[1:], (((2, "b", "set", 2),), 3))
        self.assertEqual(other.state()[1:], (((1, "a", "add", 1),), 3))
        self.assertEqual([each.change("a", "set", 0) for each in (client, one, other)], [3, 3, 3])

    def test_opened_with_the_first_state(self):
        client = Client.opened(SHELF, ((), (), 1))
        self.assertEqual(client.state(), Client(SHELF).state())
        self.assertEqual(client.change("a", "set", 1), 1)

    def test_numbers_of_closed_changes_do_not_come_again(self):
        client = Client(SHELF)
        for number in (1, 2, 3):
            client.change("a", "set", number)
        client.taken(3, 1)
        client.refused(2)
        client.refused(1)
        copies = [client.fork(), Client.opened(SHELF, client.state()), client.fork().fork()]
        for each in copies + [client]:
            for number in (1, 2, 3):
                with self.assertRaises(NoSuchChange):
                    each.refused(number)
            self.assertEqual(each.change("a", "set", 7), 4)

    def test_order_of_what_was_heard_does_not_change_the_state(self):
        draw = random.Random(82)
        for _ in range(60):
            shelf = draw.choice(SHELVES)
            news = drawn_news(draw, shelf, draw.randint(0, 4), draw.randint(1, 10))
            if not every(shelf, news).agreeing(news):
                continue
            wanted = told(*news, shelf=shelf).state()
            draw.shuffle(news)
            self.assertEqual(told(*news, shelf=shelf).state(), wanted)
            self.assertEqual(Client.opened(shelf, wanted).state(), wanted)


class Model:
    """A client as plain as can be, whose answers come from the enumeration of all tables."""

    def __init__(self, shelf, heard, changes, after):
        self.shelf, self.heard, self.changes, self.after = shelf, list(heard), list(changes), after

    def agrees(self, news):
        return every(self.shelf, news).agreeing(news) != 0

    def hear(self, piece):
        if piece in self.heard:
            return False
        if not self.agrees(self.heard + [piece]):
            return Contradiction
        self.heard.append(piece)
        return True

    def change(self, key, how, number):
        self.changes.append((self.after, key, how, number))
        self.after += 1
        return self.after - 1

    def close(self, change):
        self.changes = [row for row in self.changes if row[0] != change]

    def taken(self, change, version):
        rows = [row for row in self.changes if row[0] == change]
        if not rows:
            return NoSuchChange
        if self.hear(("did", version, rows[0][1])) is Contradiction:
            return Contradiction
        return self.close(change)

    def refused(self, change):
        return self.close(change) if change in [row[0] for row in self.changes] else NoSuchChange

    def sure(self, key, version):
        tables = every(self.shelf, self.heard)
        return tables.value(tables.agreeing(self.heard), self.heard, key, version)

    def counts(self, key, version):
        tables = every(self.shelf, self.heard)
        numbers = tables.numbers(tables.agreeing(self.heard), key, version)
        return numbers[0], numbers[-1]

    def head(self):
        return every(self.shelf, self.heard).versions

    def view(self, keys):
        version = max(at for at in range(self.head() + 1) if None not in [self.sure(key, at) for key in keys])
        values = [self.sure(key, version) for key in keys]
        for _, key, how, number in self.changes:
            for at, name in enumerate(keys):
                if name == key:
                    values[at] = {"set": number, "add": values[at] + number}[how]
        return version, tuple(values)

    def state(self):
        return tuple(sorted(self.heard, key=lambda piece: print_news([piece]))), tuple(self.changes), self.after


class AsTheModel(unittest.TestCase):
    def answer(self, client, name, arguments):
        """What a client answers, or the class of its error, which must leave its state as it was."""
        before = client.state()
        try:
            return getattr(client, name)(*arguments)
        except (Contradiction, NoSuchChange) as error:
            self.assertEqual(client.state(), before)
            return type(error)

    def call(self, draw, model):
        """One step: the name of a method and its arguments."""
        name = draw.choice(("hear",) * 8 + ("change",) * 4 + ("taken",) * 3 + ("refused", "head", "counts", "view"))
        if name == "hear":
            again = model.heard and draw.random() < 0.15
            return name, [draw.choice(model.heard) if again else any_piece(draw, model.shelf, 4)]
        if name == "change":
            return name, [draw.choice(model.shelf), draw.choice(("set", "add")), draw.randint(-9, 9)]
        if name == "taken":
            return name, [draw.randint(0, model.after), draw.randint(1, 4)]
        if name == "refused":
            return name, [draw.randint(0, model.after)]
        if name == "counts":
            return name, [draw.choice(model.shelf), draw.randint(0, model.head())]
        return name, [some_keys(draw, model.shelf)] if name == "view" else []

    def compare(self, shelf, pairs):
        for client, model in pairs:
            self.assertEqual(client.state(), model.state())
            self.assertEqual(client.open_changes(), [row[0] for row in model.changes])
            self.assertEqual(client.view(shelf), model.view(shelf))
            self.assertEqual(client.head(), model.head())
            for key in shelf:
                for version in range(model.head() + 1):
                    self.assertEqual(client.sure_value(key, version), model.sure(key, version))
                    self.assertEqual(client.counts(key, version), model.counts(key, version))

    def test_drawn_steps(self):
        draw = random.Random(83)
        answers = {True: 0, False: 0, Contradiction: 0, NoSuchChange: 0, None: 0}
        for _ in range(120):
            shelf = draw.choice(SHELVES)
            pairs = [(Client(shelf), Model(shelf, [], [], 1))]
            for _ in range(40):
                client, model = draw.choice(pairs)
                if draw.random() < 0.06:
                    new = client.fork() if draw.random() < 0.5 else Client.opened(shelf, client.state())
                    pairs.append((new, Model(shelf, model.heard, model.changes, model.after)))
                    continue
                name, arguments = self.call(draw, model)
                found = self.answer(client, name, arguments)
                wanted = getattr(model, name)(*arguments)
                self.assertEqual(found, wanted, (shelf, model.heard, name, arguments))
                self.assertIs(type(found), type(wanted))
                if found is None or found in (Contradiction, NoSuchChange) or type(found) is bool:
                    answers[found] += 1
            self.compare(shelf, pairs)
        self.assertGreater(min(answers.values()), 50, answers)


if __name__ == "__main__":
    unittest.main()
