"""Scenes of a part beside its pacts, and what can come at them.

A scene is (inner, opens, asked, coming, states).
"""

from truestandins.forms import is_answer, is_below, is_tuple
from truestandins.inners import answered, called, first_inner, is_inner
from truestandins.pacts import outcomes_of
from truestandins.wired import Wired

CALL_CAME = ("call",)
NOT_LET = ()


class Bench(Wired):
    """A part of a system beside the pacts of its wires.

    inward are the wires to the part; amid tells, by the user of the call
    that is open and the port that was asked, over which of them calls can come.
    known are the moves at all scenes that were asked for.
    """

    def __init__(self, system, name):
        self.subject = system.part(name)
        self.name = name
        wires = tuple(wire for wire in system.wires if name in (wire[0], system.offerer(wire)))
        Wired.__init__(self, system, wires)
        self.known = {}
        self.inward = tuple(wire for wire in self.wires if wire[0] != name)
        self.amid = {
            (wire[0], port): wires_amid(system, name, self.inward, wire[0], port)
            for wire in self.inward for port in self.subject.ports
        }

    def first(self):
        """The first scene."""
        return first_inner(self.subject), (), (), (), (0,) * len(self.wires)

    def moves(self, scene):
        """All (event, scene behind it) that can come at a scene; behind an event that is not let it is ()."""
        if scene not in self.known:
            self.known[scene] = self.fresh_moves(scene)
        return self.known[scene]

    def item(self, scene, event):
        """The item to which an event that can come at a scene comes."""
        _, opens, asked, coming, states = scene
        return self.item_of(states, event, opens[-1] if coming else asked)

    def fresh_moves(self, scene):
        _, opens, asked, coming, _ = scene
        if coming:
            return self.own_moves(scene)
        if not asked:
            return self.calls(scene, self.inward)
        return self.answers(scene) + self.calls(scene, self.amid[opens[0][0][0], asked[0][1]])

    def calls(self, scene, wires):
        """The calls that come over these wires."""
        inner, opens, asked, _, states = scene
        found = []
        for wire in wires:
            for door, worth, _ in self.state(states, wire):
                later = (inner, opens + ((wire, door, worth),), asked, CALL_CAME, states)
                found.append(((wire, "call", door, worth), later))
        return found

    def answers(self, scene):
        """The answers to what the part asked."""
        inner, opens, asked, _, states = scene
        wire, door, worth = asked
        found = []
        for answer, number in outcomes_of(self.state(states, wire), door, worth):
            later = (inner, opens, (), ("answer", answer), self.moved(states, wire, number))
            found.append(((wire, "answer", answer), later))
        return found

    def own_moves(self, scene):
        """What the part does."""
        inner, opens, _, coming, _ = scene
        if coming == CALL_CAME:
            deeds = called(self.subject, inner, opens[-1][1], opens[-1][2])
        else:
            deeds = answered(self.subject, inner, coming[1])
        return [self.own_move(scene, deed, after) for deed, after in deeds]

    def own_move(self, scene, deed, inner):
        _, opens, asked, _, states = scene
        if deed[0] == "asks":
            _, port, door, worth = deed
            call = ((self.name, port), door, worth)
            later = (inner, opens, call, (), states) if self.lets(states, call) else NOT_LET
            return (call[0], "call", door, worth), later
        behind = self.states_behind(states, opens[-1], deed[1])
        later = NOT_LET if behind is None else (inner, opens[:-1], asked, (), behind)
        return (opens[-1][0], "answer", deed[1]), later

    def is_scene(self, value):
        """Whether any value is a scene of the part by its form."""
        if not is_tuple(value, 5):
            return False
        inner, opens, asked, coming, states = value
        if not is_inner(self.subject, inner) or not self.are_states(states) or not self.are_open(opens):
            return False
        if inner[1] == ():
            return asked == () and coming == (CALL_CAME if opens else ()) and len(opens) < 2
        if len(opens) == 2:
            return self.is_asked(inner, asked) and coming == CALL_CAME and opens[0][0] != opens[1][0]
        if len(opens) == 0:
            return False
        if coming == ():
            return self.is_asked(inner, asked)
        return asked == () and self.is_answer_come(coming)

    def are_open(self, value):
        """Whether it is a tuple of at most two calls to the part."""
        if not isinstance(value, tuple) or len(value) > 2:
            return False
        return all([is_tuple(call, 3) and call[0] in self.inward and self.is_own_call(call) for call in value])

    def is_own_call(self, call):
        return call[1] in self.subject.doors and is_below(call[2], self.subject.worths)

    def is_asked(self, inner, value):
        """Whether it is a call as the ask for which the inner waits makes them."""
        _, port, door = self.subject.asks[inner[1][0]]
        if not is_tuple(value, 3):
            return False
        return value[:2] == ((self.name, port), door) and is_below(value[2], self.subject.worths)

    def is_answer_come(self, value):
        return is_tuple(value, 2) and value[0] == "answer" and is_answer(value[1], self.subject.worths)


def wires_amid(system, name, inward, user, port):
    """The wires over which a part that asks over the port can be called, while a call of this user is open."""
    barred = (name, user)
    users = parts_reached(system, system.offerer((name, port)), barred)
    return tuple(wire for wire in inward if wire[0] in users and wire[0] not in barred)


def parts_reached(system, start, barred):
    """The part to start from, and all that are reached from it by wires that begin at none that is barred."""
    met = [start]
    at = 0
    while at < len(met):
        ports = () if met[at] in barred else system.part(met[at]).ports
        for port in ports:
            other = system.offerer((met[at], port))
            if other not in met:
                met.append(other)
        at += 1
    return met
