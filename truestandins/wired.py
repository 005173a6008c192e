"""Wires, and the states in which their pacts are."""

from truestandins.forms import is_below, is_tuple
from truestandins.inners import put
from truestandins.pacts import outcomes_of, state_behind


class Wired:
    """What stands beside the pacts of some wires of a system; states has one for each of them."""

    def __init__(self, system, wires):
        self.wires = wires
        self.pacts = tuple(system.pact(wire) for wire in wires)

    def state(self, states, wire):
        """The state in which the pact of a wire is."""
        at = self.wires.index(wire)
        return self.pacts[at][states[at]]

    def lets(self, states, call):
        """Whether a call, (wire, door, worth), is let."""
        wire, door, worth = call
        return outcomes_of(self.state(states, wire), door, worth) != ()

    def states_behind(self, states, call, answer):
        """The states behind an answer to a call, None if it is not let."""
        wire, door, worth = call
        number = state_behind(self.state(states, wire), door, worth, answer)
        return None if number is None else self.moved(states, wire, number)

    def moved(self, states, wire, number):
        return put(states, self.wires.index(wire), number)

    def item_of(self, states, event, call):
        """The item to which an event comes, call being what it answers if it is an answer."""
        wire = event[0]
        about = event[2:] if event[1] == "call" else call[1:] + event[2:]
        return (wire, states[self.wires.index(wire)]) + about

    def are_states(self, value):
        """Whether any value is a tuple of states that the pacts have."""
        if not is_tuple(value, len(self.wires)):
            return False
        return all([is_below(number, len(pact)) for number, pact in zip(value, self.pacts)])
