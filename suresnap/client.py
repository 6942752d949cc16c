"""A client: what it has heard, and its own changes on top of what is sure."""

from suresnap.counts import counts
from suresnap.errors import Contradiction, NoSuchChange
from suresnap.histories import head_of
from suresnap.news import print_piece
from suresnap.sure import newest, sure_value
from suresnap.tables import possible


class Client:
    """Hears news of the keys of a shelf and keeps own changes until the server takes or refuses them."""

    def __init__(self, shelf):
        self.shelf = shelf
        self.heard = []
        self.changes = {}
        self.upcoming = 1

    def hear(self, piece):
        """Hear a piece of news; return False if it was heard before, otherwise True."""
        if piece in self.heard:
            return False
        news = [*self.heard, piece]
        if not possible(self.shelf, news):
            raise Contradiction(f"no history agrees with all that was heard and {print_piece(piece)}")
        self.heard = news
        return True

    def head(self):
        """Return the head of what was heard."""
        return head_of(self.heard)

    def counts(self, key, version):
        """Return the least and the greatest number of writes of a key by a version."""
        return counts(self.shelf, self.heard, key, version)

    def sure_value(self, key, version):
        """Return the value of a key at a version if it is sure, otherwise None."""
        return sure_value(self.shelf, self.heard, key, version)

    def change(self, key, how, number):
        """Make an own change, "set" or "add", and return the number of the change."""
        given = self.upcoming
        self.changes[given] = (key, how, number)
        self.upcoming = given + 1
        return given

    def open_changes(self):
        """Return the list of the numbers of the open changes, ascending."""
        return list(self.changes)

    def check_open(self, change):
        """Raise NoSuchChange if no open change has this number."""
        if change not in self.changes:
            raise NoSuchChange(f"there is no change {change} to be taken or refused")

    def taken(self, change, version):
        """Hear that the commit of a version wrote the key of an open change, and close the change."""
        self.check_open(change)
        # The change stays open if this raises an error.
        self.hear(("did", version, self.changes[change][0]))
        del self.changes[change]

    def refused(self, change):
        """Close an open change."""
        self.check_open(change)
        del self.changes[change]

    def view(self, keys):
        """Return the newest version at which the keys are sure, and their values with the open changes done."""
        version, values = newest(self.shelf, self.heard, keys)
        now = dict(zip(keys, values))
        for key, how, number in self.changes.values():
            if key in now:
                now[key] = number if how == "set" else now[key] + number
        return (version, tuple([now[key] for key in keys]))

    def state(self):
        """Return the tuple of the pieces heard, the open changes and the number of the next change."""
        heard = tuple(sorted(self.heard, key=print_piece))
        changes = tuple([(number, key, how, amount) for number, (key, how, amount) in self.changes.items()])
        return (heard, changes, self.upcoming)

    def fork(self):
        """Return a new client with the same shelf and state."""
        return Client.opened(self.shelf, self.state())

    @staticmethod
    def opened(shelf, state):
        """Return a new client with a shelf and a state of a client with this shelf."""
        heard, changes, upcoming = state
        client = Client(shelf)
        client.heard = list(heard)
        client.changes = {number: (key, how, amount) for number, key, how, amount in changes}
        client.upcoming = upcoming
        return client
