"""Moments of the whole, and what can come at them.

A moment is (inners, stack, given, states).
"""

from truestandins.forms import ascends, is_answer, is_below, is_tuple
from truestandins.inners import answered, called, first_inner, is_inner, put
from truestandins.scenes import NOT_LET
from truestandins.wired import Wired


class Stage(Wired):
    """All parts of a system, which run together.

    names are the parts, players the Parts in the same sequence; known are
    the moves at all moments that were asked for.
    """

    def __init__(self, system):
        Wired.__init__(self, system, system.wires)
        self.names = system.parts
        self.players = tuple(system.part(name) for name in system.parts)
        self.offerers = {wire: system.offerer(wire) for wire in system.wires}
        self.known = {}

    def first(self):
        """The first moment."""
        return tuple(first_inner(part) for part in self.players), (), (), (0,) * len(self.wires)

    def moves(self, moment):
        """All (event, moment behind it) that can come at a moment; behind an event that is not let it is ()."""
        if moment not in self.known:
            self.known[moment] = self.fresh_moves(moment)
        return self.known[moment]

    def item(self, moment, event):
        """The item to which an event that can come at a moment comes."""
        _, stack, _, states = moment
        return self.item_of(states, event, stack[-1] if stack else ())

    def fresh_moves(self, moment):
        inners, stack, given, states = moment
        if not stack:
            return self.calls_of_outside(inners, states)
        if given:
            at = self.names.index(given[0][0])
            deeds = answered(self.players[at], inners[at], given[1])
        else:
            wire, door, worth = stack[-1]
            at = self.names.index(self.offerers[wire])
            deeds = called(self.players[at], inners[at], door, worth)
        return [self.own_move(moment, at, deed, after) for deed, after in deeds]

    def calls_of_outside(self, inners, states):
        return [
            ((wire, "call", door, worth), (inners, ((wire, door, worth),), (), states))
            for wire in self.wires if wire[0] == ""
            for door, worth, _ in self.state(states, wire)
        ]

    def own_move(self, moment, at, deed, inner):
        """What comes by a deed of the part at this place, inner being behind it."""
        inners, stack, _, states = moment
        after = put(inners, at, inner)
        if deed[0] == "asks":
            _, port, door, worth = deed
            call = ((self.names[at], port), door, worth)
            later = (after, stack + (call,), (), states) if self.lets(states, call) else NOT_LET
            return (call[0], "call", door, worth), later
        wire = stack[-1][0]
        behind = self.states_behind(states, stack[-1], deed[1])
        given = (wire, deed[1]) if wire[0] else ()
        later = NOT_LET if behind is None else (after, stack[:-1], given, behind)
        return (wire, "answer", deed[1]), later

    def are_moments(self, value):
        """Whether any value is an ascending tuple of moments by their form."""
        return isinstance(value, tuple) and all([self.is_moment(moment) for moment in value]) and ascends(value)

    def is_moment(self, value):
        """Whether any value is a moment by its form."""
        if not is_tuple(value, 4):
            return False
        inners, stack, given, states = value
        if not self.are_inners(inners) or not self.are_states(states) or not self.are_calls(stack):
            return False
        waiting = [name for name, inner in zip(self.names, inners) if inner[1]]
        if not stack:
            return given == () and not waiting
        if stack[0][0][0] != "" or not self.is_chain(inners, stack):
            return False
        offerers = [self.offerers[call[0]] for call in stack]
        firm = offerers if given != () else offerers[:-1]
        # Whoever is called twice can be the last one alone: it has just been called, and answers busy.
        if not all([name in offerers for name in waiting]) or len(set(firm)) != len(firm):
            return False
        return given == () or self.is_given(inners, offerers[-1], given)

    def are_inners(self, value):
        if not is_tuple(value, len(self.players)):
            return False
        return all([is_inner(part, inner) for part, inner in zip(self.players, value)])

    def are_calls(self, value):
        return isinstance(value, tuple) and all([self.is_call(call) for call in value])

    def is_call(self, value):
        """Whether it is a call over a wire, at a door of its offerer."""
        if not is_tuple(value, 3) or value[0] not in self.wires:
            return False
        part = self.players[self.names.index(self.offerers[value[0]])]
        return value[1] in part.doors and is_below(value[2], part.worths)

    def is_chain(self, inners, stack):
        """Whether each call but the first is the one for which the offerer of the call ahead waits."""
        return all([
            stack[at + 1][:2] == self.awaited(inners, self.offerers[stack[at][0]])
            for at in range(len(stack) - 1)
        ])

    def awaited(self, inners, name):
        """The wire and the door of the ask for which a part waits, () if it does not wait."""
        at = self.names.index(name)
        wait = inners[at][1]
        if not wait:
            return ()
        _, port, door = self.players[at].asks[wait[0]]
        return (name, port), door

    def is_given(self, inners, name, value):
        """Whether it is an answer over the wire for which the part waits."""
        if not is_tuple(value, 2) or not is_answer(value[1], self.players[0].worths):
            return False
        return self.awaited(inners, name)[:1] == (value[0],)
