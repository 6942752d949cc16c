"""Networks: nodes joined by arcs that carry whole amounts, as much into each node as out of it."""

# The node at which the amounts of a network begin and end.
HUB = 0


class Network:
    """Nodes and arcs; an arc carries an amount from its tail to its head, at first nothing."""

    def __init__(self, nodes):
        self.ends = []
        self.least = []
        self.greatest = []
        self.amounts = []
        self.steps = [[] for _ in range(nodes)]

    def connect(self, tail, end, least, greatest):
        """Lay an arc with bounds for its amount and return its number."""
        arc = len(self.ends)
        self.ends.append((tail, end))
        self.least.append(least)
        self.greatest.append(greatest)
        self.amounts.append(0)
        self.steps[tail].append((arc, end, 1))
        self.steps[end].append((arc, tail, -1))
        return arc

    def can_change(self, arc, change):
        """Return whether an arc may carry one more (change 1) or one less (change -1)."""
        if change > 0:
            return self.amounts[arc] < self.greatest[arc]
        return self.amounts[arc] > self.least[arc]

    def ways(self, start, goal, barred):
        """Return a dict of the nodes met on the search for a goal, each with the step that led to it.

        A step is a tuple (node before, arc, change); start has none. The barred arc is not used.
        """
        found = {start: None}
        waiting = [start]
        while waiting and goal not in found:
            node = waiting.pop()
            for arc, other, change in self.steps[node]:
                if other not in found and arc != barred and self.can_change(arc, change):
                    found[other] = (node, arc, change)
                    waiting.append(other)
        return found

    def send(self, start, goal, barred):
        """Send one from start to goal past the barred arc, and return whether there was a way."""
        found = self.ways(start, goal, barred)
        if goal not in found:
            return False
        node = goal
        while node != start:
            node, arc, change = found[node]
            self.amounts[arc] += change
        return True

    def enlarge(self, arc):
        """Let an arc carry one more, and return whether that can be."""
        tail, end = self.ends[arc]
        if not self.can_change(arc, 1) or not self.send(end, tail, arc):
            return False
        self.amounts[arc] += 1
        return True

    def lessen(self, arc):
        """Let an arc carry one less, and return whether that can be."""
        tail, end = self.ends[arc]
        if not self.can_change(arc, -1) or not self.send(tail, end, arc):
            return False
        self.amounts[arc] -= 1
        return True

    def first_lacking(self):
        """Bring the amounts within their bounds; return None, or an arc that can't get its least amount."""
        for arc, least in enumerate(self.least):
            # No later step takes an arc below its least amount again.
            while self.amounts[arc] < least:
                if not self.enlarge(arc):
                    return arc
        return None

    def settle(self):
        """Bring the amounts of all arcs within their bounds, and return whether that can be."""
        return self.first_lacking() is None

    def behind(self, arc):
        """Return a dict of the nodes to which one more through an arc could go on from its end."""
        tail, end = self.ends[arc]
        return self.ways(end, tail, arc)

    def most(self, arc):
        """Let an arc of a settled network carry as much as it can, and return how much that is."""
        while self.enlarge(arc):
            pass
        return self.amounts[arc]

    def fewest(self, arc):
        """Let an arc of a settled network carry as little as it can, and return how much that is."""
        while self.lessen(arc):
            pass
        return self.amounts[arc]

    def hold(self, arc):
        """Keep the amount of an arc as it is from now on."""
        self.least[arc] = self.amounts[arc]
        self.greatest[arc] = self.amounts[arc]
