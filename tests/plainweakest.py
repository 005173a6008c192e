"""Section 10 once more, written as plainly as its words: what the program tells is held against this."""

from tests import plainly


class Beside:
    """A system with another table in the place of the pact of one wire."""

    def __init__(self, system, wire, pact):
        self.system, self.wire, self.own = system, wire, pact
        self.parts, self.wires, self.worths = system.parts, system.wires, system.worths
        self.part, self.offerer = system.part, system.offerer

    def pact(self, wire):
        return self.own if wire == self.wire else self.system.pact(wire)


def calls_over(system, wire):
    doors = sorted(system.part(system.offerer(wire)).doors)
    return [(door, worth) for door in doors for worth in range(system.worths)]


def free(system, wire):
    """The system in which the wire lets all."""
    outcomes = tuple((answer, 0) for answer in range(-2, system.worths))
    return Beside(system, wire, (tuple(call + (outcomes,) for call in calls_over(system, wire)),))


def event(wire, letter):
    return (wire, "call") + letter if isinstance(letter, tuple) else (wire, "answer", letter)


def grown(system, name, wire, scenes):
    """The scenes, and all that come from them by events over other wires."""
    found, level = set(scenes), list(scenes)
    while level:
        behind = [later for scene in level for known, later in plainly.events_at(system, name, scene)
                  if known[0] != wire and later is not None]
        level = list(set(behind) - found)
        found.update(level)
    return tuple(sorted(found))


def stepped(system, name, wire, scenes, letter):
    """The scenes behind a call or an answer over the wire."""
    behind = set(later for scene in scenes for known, later in plainly.events_at(system, name, scene)
                 if known == event(wire, letter))
    return grown(system, name, wire, behind)


def first_node(system, wire):
    open_system = free(system, wire)
    offerer = system.offerer(wire)
    users = ()
    if wire[0]:
        users = grown(open_system, wire[0], wire, [plainly.first_scene(system, wire[0])])
    return users, grown(open_system, offerer, wire, [plainly.first_scene(system, offerer)]), ()


def node_behind(system, wire, node, letter):
    open_system = free(system, wire)
    users = stepped(open_system, wire[0], wire, node[0], letter) if wire[0] else ()
    return users, stepped(open_system, system.offerer(wire), wire, node[1], letter), () if node[2] else letter


def own_events(system, wire, node):
    """All (event, scene behind it) that user and offerer can bring about at a node."""
    open_system = free(system, wire)
    return [move for name, scenes in ((wire[0], node[0]), (system.offerer(wire), node[1]))
            for scene in scenes if scene[3] for move in plainly.events_at(open_system, name, scene)]


def letters(system, wire, node):
    return list(range(-2, system.worths)) if node[2] else calls_over(system, wire)


class Plain:
    """All nodes with their least ranks, None for those that are not bad."""

    def __init__(self, system, wire):
        self.system, self.wire = system, wire
        self.first = first_node(system, wire)
        self.nexts, self.own = {}, {}
        level = [self.first]
        while level:
            fresh = []
            for node in level:
                if node not in self.nexts:
                    self.own[node] = own_events(system, wire, node)
                    self.nexts[node] = {}
                    if not self.broken(node):
                        self.nexts[node] = {letter: node_behind(system, wire, node, letter)
                                            for letter in letters(system, wire, node)}
                    fresh += self.nexts[node].values()
            level = fresh
        self.ranks = {node: None for node in self.nexts}
        changed = True
        while changed:
            changed = False
            for node in self.nexts:
                rank = self.rank(node)
                if rank != self.ranks[node]:
                    self.ranks[node], changed = rank, True

    def broken(self, node):
        return any(later is None for _, later in self.own[node])

    def rank(self, node):
        if self.broken(node):
            return 0
        ways = []
        events = [known for known, _ in self.own[node]]
        for letter, later in self.nexts[node].items():
            if event(self.wire, letter) in events and self.ranks[later] is not None:
                ways.append(self.ranks[later] + 1)
        behind = [self.ranks[later] for later in self.nexts[node].values()]
        if node[2] and None not in behind:
            ways.append(max(behind) + 1)
        return min(ways) if ways else None

    def table(self):
        return tuple(sorted(node + (-1 if rank is None else rank,) for node, rank in self.ranks.items()))

    def node(self, word):
        """The node behind letters; None where one ahead of it is bad."""
        node = self.first
        for letter in word:
            if self.ranks[node] is not None:
                return None
            node = self.nexts[node].get(letter)
        return node

    def lets(self, word, by_user=False):
        """Whether the weakest pact lets a word, or, by_user, also the user can have it."""
        node = self.node([letter for door, worth, answer in word for letter in ((door, worth), answer)])
        return node is not None and self.ranks[node] is None and (node[0] != () or not by_user)
