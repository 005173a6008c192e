"""The parts at the two ends of a wire, and where each can be behind words over it."""

from truestandins.keeping import are_scenes
from truestandins.scenes import Bench


class Side:
    """A part at one end of a wire that lets all: the sets of scenes at which it can be, each known by a number.

    Sets have all scenes that come from them by events over other wires. The
    outside, whose name is "", has no scenes.
    """

    def __init__(self, system, name, wire):
        self.bench = Bench(system, name) if name else None
        self.wire = wire
        self.groups = []
        self.numbers = {}
        self.laters = {}
        self.own_events = []
        self.faults = []

    def start(self):
        """The number of the set ahead of all words."""
        return self.number_of([self.bench.first()] if self.bench is not None else [])

    def after(self, number, event):
        """The number of the set behind an event over the wire."""
        if (number, event) not in self.laters:
            scenes = [
                later for scene in self.groups[number] for other, later in self.bench.moves(scene) if other == event
            ]
            self.laters[number, event] = self.number_of(scenes)
        return self.laters[number, event]

    def is_group(self, value):
        """Whether any value is an ascending tuple of scenes by their form, () of the outside."""
        return value == () if self.bench is None else are_scenes(self.bench, value)

    def number_of(self, scenes):
        """The number of the set of these scenes and of all that come from them."""
        met = {scene: True for scene in scenes}
        queue = list(met)
        at = 0
        while at < len(queue):
            moves = self.bench.moves(queue[at])
            for event, later in moves:
                if event[0] != self.wire and later != () and later not in met:
                    met[later] = True
                    queue.append(later)
            at += 1
        group = tuple(sorted(met))
        if group not in self.numbers:
            self.numbers[group] = len(self.groups)
            self.groups.append(group)
            self.look_at(group)
        return self.numbers[group]

    def look_at(self, group):
        """Keeps what the part does over the wire at one of the scenes, and whether it breaks another pact."""
        own = [move for scene in group if scene[3] != () for move in self.bench.moves(scene)]
        self.own_events.append({event: True for event, _ in own if event[0] == self.wire})
        self.faults.append(() in [later for _, later in own])
