"""Nodes of a wire: where its user and its offerer can be behind a word, and behind a call that follows.

Here a node is (number of a set of scenes of the user, one of the offerer,
call); it is shown with the sets themselves. Bad are the nodes of words that
no pact with which both ends keep theirs can let.
"""

from truestandins.errors import TooMany
from truestandins.sides import Side

NOT_BAD = -1


class Nodes:
    """What leads from node to node; doors are all calls over the wire, replies all answers."""

    def __init__(self, system, wire):
        offerer = system.offerer(wire)
        worths = system.worths
        self.doors = tuple((door, worth) for door in sorted(system.part(offerer).doors) for worth in range(worths))
        self.replies = tuple(range(-2, worths))
        every = tuple((answer, 0) for answer in self.replies)
        free = system.with_pact(wire, (tuple((door, worth, every) for door, worth in self.doors),))
        self.wire = wire
        self.users = Side(free, wire[0], wire)
        self.offers = Side(free, offerer, wire)

    def first(self):
        return self.users.start(), self.offers.start(), ()

    def letters(self, node):
        """All calls, or all answers, that lead on from a node."""
        return self.replies if node[2] else self.doors

    def behind(self, node, letter):
        """The node to which a call or an answer leads."""
        user, offer, call = node
        event = event_of(self.wire, letter)
        return self.users.after(user, event), self.offers.after(offer, event), () if call else letter

    def all_behind(self, node):
        """The nodes behind all letters, by these."""
        return {letter: self.behind(node, letter) for letter in self.letters(node)}

    def is_broken(self, node):
        """Whether the user or the offerer can break another pact there."""
        return self.users.faults[node[0]] or self.offers.faults[node[1]]

    def can_come(self, node, letter):
        """Whether the user can make this call, or the offerer give this answer."""
        event = event_of(self.wire, letter)
        return event in (self.offers.own_events[node[1]] if node[2] else self.users.own_events[node[0]])

    def shown(self, node):
        return self.users.groups[node[0]], self.offers.groups[node[1]], node[2]

    def is_formed(self, value):
        """Whether a tuple of three values is what a node is shown with, by its form."""
        users, offers, call = value
        if not self.users.is_group(users) or not self.offers.is_group(offers):
            return False
        return call == () or call in self.doors

    def come(self, most):
        """All nodes to which letters lead from nodes where nothing is broken, and what is behind each."""
        nexts = {self.first(): {}}
        queue = list(nexts)
        at = 0
        while at < len(queue):
            node = queue[at]
            at += 1
            if self.is_broken(node):
                continue
            behind = self.all_behind(node)
            nexts[node] = behind
            for later in behind.values():
                if later not in nexts:
                    nexts[later] = {}
                    queue.append(later)
            if most is not None and len(nexts) > most:
                raise TooMany(most)
        return nexts


def event_of(wire, letter):
    """The event by which a call, (door, worth), or an answer comes over the wire."""
    return (wire, "call") + letter if isinstance(letter, tuple) else (wire, "answer", letter)


def ranks_of(nodes, nexts):
    """The least rank by which each node is bad, -1 of those that are not."""
    ranks = {node: NOT_BAD for node in nexts}
    ahead = {node: [] for node in nexts}
    left = {}
    for node in nexts:
        left[node] = len(nexts[node])
        for letter in nexts[node]:
            ahead[nexts[node][letter]].append((node, letter))
    level = [node for node in nexts if nodes.is_broken(node)]
    rank = 0
    while level:
        for node in level:
            ranks[node] = rank
        fresh = {}
        for earlier, letter in [way for node in level for way in ahead[node]]:
            left[earlier] -= 1
            shown = nodes.can_come(earlier, letter) or earlier[2] and left[earlier] == 0
            if shown and ranks[earlier] == NOT_BAD:
                fresh[earlier] = True
        level = list(fresh)
        rank += 1
    return ranks
