"""A part that runs in a test, and what can come there.

An event is not let here if something goes wrong by it: () stands behind it.
"""

from truestandins.forms import is_answer, is_below, is_tuple
from truestandins.inners import answered, called, first_inner, is_inner, put
from truestandins.moments import Stage
from truestandins.pacts import outcomes_of
from truestandins.scenes import CALL_CAME, NOT_LET
from truestandins.systems import System, system_text


class PactIn:
    """A pact that stands in for the part at the other end of its wire; a state is one of the pact's."""

    def __init__(self, pact):
        self.states = pact

    def first(self):
        return 0

    def given_behind(self, state, door, worth):
        """All (answer to a call, state behind it), none if the call is not let."""
        return outcomes_of(self.states[state], door, worth)

    def is_done(self, _):
        """No row of a pact has to be used."""
        return True

    def has_state(self, value):
        return is_below(value, len(self.states))


class Rounds:
    """The calls of a test, (door, worth, what is awaited), and the wire over which they come."""

    def __init__(self, test):
        self.rounds = test.rounds
        self.outer = ("", test.name)

    def call_event(self, number):
        door, worth, _ = self.rounds[number]
        return self.outer, "call", door, worth

    def is_awaited(self, number, answer):
        """Whether this is an answer that is awaited to the call of this number."""
        awaited = self.rounds[number][2]
        if awaited == "any":
            return answer >= 0
        return awaited is None or answer == awaited


class StubBed(Rounds):
    """The part of a test beside what stands in for its ports; stubs has one for each of them.

    A member is (number, inner, asked, coming, states).
    """

    def __init__(self, system, test, stubs):
        Rounds.__init__(self, test)
        self.subject = system.part(test.name)
        self.stubs = stubs

    def first(self):
        return 0, first_inner(self.subject), (), (), tuple(stub.first() for stub in self.stubs)

    def moves(self, member):
        """All (event, member behind it) that can come at a member."""
        number, inner, asked, coming, states = member
        if coming:
            return self.own_moves(member)
        if asked:
            return self.answers(member)
        if number == len(self.rounds):
            return []
        return [(self.call_event(number), (number, inner, (), CALL_CAME, states))]

    def answers(self, member):
        """The answers to what the part asked."""
        number, inner, asked, _, states = member
        port, door, worth = asked
        at = self.subject.ports.index(port)
        return [
            ((self.port_wire(port), "answer", answer), (number, inner, (), ("answer", answer), put(states, at, later)))
            for answer, later in self.stubs[at].given_behind(states[at], door, worth)
        ]

    def own_moves(self, member):
        """What the part does."""
        number, inner, _, coming, _ = member
        if coming == CALL_CAME:
            door, worth, _ = self.rounds[number]
            deeds = called(self.subject, inner, door, worth)
        else:
            deeds = answered(self.subject, inner, coming[1])
        return [self.own_move(member, deed, after) for deed, after in deeds]

    def own_move(self, member, deed, inner):
        number, _, _, _, states = member
        if deed[0] == "asks":
            port, door, worth = deed[1:]
            at = self.subject.ports.index(port)
            taken = self.stubs[at].given_behind(states[at], door, worth)
            later = (number, inner, deed[1:], (), states) if taken else NOT_LET
            return (self.port_wire(port), "call", door, worth), later
        done = number + 1 < len(self.rounds) or all([
            stub.is_done(state) for stub, state in zip(self.stubs, states)
        ])
        right = done and self.is_awaited(number, deed[1])
        return (self.outer, "answer", deed[1]), (number + 1, inner, (), (), states) if right else NOT_LET

    def port_wire(self, port):
        return self.outer[1], port

    def is_member(self, value):
        """Whether any value is a member by its form."""
        if not is_tuple(value, 5) or not is_below(value[0], len(self.rounds) + 1):
            return False
        number, inner, asked, coming, states = value
        if not is_inner(self.subject, inner) or not self.are_states(states):
            return False
        if number == len(self.rounds):
            return inner[1] == asked == coming == ()
        if inner[1] == ():
            return asked == () and coming in ((), CALL_CAME)
        if coming == ():
            return self.is_asked(inner, asked)
        return asked == () and self.is_answer_come(coming)

    def are_states(self, value):
        if not is_tuple(value, len(self.stubs)):
            return False
        return all([stub.has_state(state) for stub, state in zip(self.stubs, value)])

    def is_answer_come(self, value):
        return is_tuple(value, 2) and value[0] == "answer" and is_answer(value[1], self.subject.worths)

    def is_asked(self, inner, value):
        """Whether it is what the ask for which the inner waits makes."""
        if not is_tuple(value, 3) or not is_below(value[2], self.subject.worths):
            return False
        return value[:2] == self.subject.asks[inner[1][0]][1:]


class RealBed(Rounds):
    """The part of a test beside the real parts, whose pacts let all here.

    A member is (number, inners, stack, given).
    """

    def __init__(self, system, test):
        Rounds.__init__(self, test)
        self.stage = Stage(free_system(system, test.name))
        self.free = self.stage.first()[3]

    def first(self):
        return 0, self.stage.first()[0], (), ()

    def moves(self, member):
        """All (event, member behind it) that can come at a member."""
        number, inners, stack, given = member
        if stack:
            return [
                self.move_of(number, event, later)
                for event, later in self.stage.moves((inners, stack, given, self.free))
            ]
        if number == len(self.rounds):
            return []
        return [(self.call_event(number), (number, inners, (self.open_call(number),), ()))]

    def move_of(self, number, event, later):
        """What comes in the test where the real parts come to a later moment."""
        if event[0] != self.outer:
            return event, (number,) + later[:3]
        return event, (number + 1,) + later[:3] if self.is_awaited(number, event[2]) else NOT_LET

    def open_call(self, number):
        door, worth, _ = self.rounds[number]
        return self.outer, door, worth

    def is_member(self, value):
        """Whether any value is a member by its form."""
        if not is_tuple(value, 4) or not is_below(value[0], len(self.rounds) + 1):
            return False
        if not self.stage.is_moment(value[1:] + (self.free,)):
            return False
        number, _, stack, _ = value
        return stack == () or number < len(self.rounds) and stack[0] == self.open_call(number)


def free_system(system, name):
    """The system with pacts that let all, where the outside calls this part alone."""
    links = {}
    for wire in [wire for wire in system.links if wire[0] != ""] + [("", name)]:
        offerer = system.offerer(wire) if wire[0] else name
        links[wire] = (offerer, free_pact(system.worths, system.part(offerer).doors))
    return System(system_text(system.worths, system.members, links))


def free_pact(worths, doors):
    """The pact that lets all calls of these doors, and all answers."""
    every = tuple((answer, 0) for answer in range(-2, worths))
    return (tuple((door, worth, every) for door in sorted(doors) for worth in range(worths)),)
