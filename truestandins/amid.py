"""A part that is exchanged amid a run of the whole."""

from truestandins.errors import BadRows
from truestandins.forms import ascends, is_below, is_tuple
from truestandins.inners import first_inner, put
from truestandins.moments import Stage
from truestandins.scenes import NOT_LET
from truestandins.searching import is_closed, is_run_to_fault, search
from truestandins.wired import Wired

EXCHANGE = ("exchange",)


class Exchange:
    """The whole with one part, and behind the exchange, which may come once, with another one in its place.

    A member is (0, moment) ahead of it, (1, moment) behind it.
    """

    def __init__(self, system, name, newer, only):
        other = system.with_part(name, newer)
        wires = tuple(wire for wire in system.wires if name in (wire[0], system.offerer(wire)))
        if only is not None and not are_rows(Wired(system, wires), only):
            raise BadRows(only)
        self.stages = (Stage(system), Stage(other))
        self.place = system.parts.index(name)
        self.fresh = first_inner(newer)
        self.columns = tuple(system.wires.index(wire) for wire in wires)
        self.only = None if only is None else {row: True for row in only}

    def first(self):
        return 0, self.stages[0].first()

    def moves(self, member):
        """All (event, member behind it) that can come; behind an event that is not let it is ()."""
        number, moment = member
        found = [
            (event, NOT_LET if later == NOT_LET else (number, later))
            for event, later in self.stages[number].moves(moment)
        ]
        if number == 0 and self.may_come(moment):
            inners, stack, given, states = moment
            found.append((EXCHANGE, (1, (put(inners, self.place, self.fresh), stack, given, states))))
        return found

    def may_come(self, moment):
        """Whether the part can be exchanged at a moment."""
        inners, stack, given, states = moment
        stage = self.stages[0]
        if inners[self.place][1] != ():
            return False
        if stack != () and given == () and stage.offerers[stack[-1][0]] == stage.names[self.place]:
            return False
        return self.only is None or tuple(states[column] for column in self.columns) in self.only

    def are_members(self, value):
        """Whether any value is an ascending tuple of members by their form."""
        return isinstance(value, tuple) and all([self.is_member(member) for member in value]) and ascends(value)

    def is_member(self, value):
        return is_tuple(value, 2) and is_below(value[0], 2) and self.stages[value[0]].is_moment(value[1])


def amid(system, name, newer, *, only=None):
    """("kept", all members that can come), or ("broken", a run of fewest events)."""
    exchange = Exchange(system, name, newer, only)
    run, ways = search([exchange.first()], lambda member: exchange.moves(member))
    return ("broken", run) if run else ("kept", tuple(sorted(ways)))


def shows_amid(system, name, newer, value, *, only=None):
    """Whether any value is a result that amid may tell, right by itself."""
    exchange = Exchange(system, name, newer, only)
    if not is_tuple(value, 2):
        return False
    if value[0] == "broken":
        return is_run_to_fault(exchange.first(), lambda member: exchange.moves(member), value[1])
    if value[0] != "kept" or not exchange.are_members(value[1]):
        return False
    return is_closed([exchange.first()], lambda member: exchange.moves(member), value[1])


def are_rows(wired, value):
    """Whether any value is an ascending tuple of rows of states that the pacts have."""
    return isinstance(value, tuple) and all([wired.are_states(row) for row in value]) and ascends(value)
