"""How many asks one call can set off.

What is open stands second in scenes and in moments: the calls that are not answered yet.
"""

from truestandins.errors import NotKept
from truestandins.forms import ascends, is_below, is_integer, is_tuple
from truestandins.keeping import ways_kept
from truestandins.moments import Stage
from truestandins.rings import heights_among, ring_among
from truestandins.scenes import NOT_LET, Bench
from truestandins.searching import MOST_MEMBERS, members_along, members_behind, run_to, search


class Asking:
    """Who asks: a part beside its pacts, which has a name, or the whole, which has none.

    ground is a Bench or a Stage; ways are all members that come, and how they were met.
    """

    def __init__(self, ground, ways, name):
        self.ground = ground
        self.ways = ways
        self.name = name

    def moves(self, member):
        return self.ground.moves(member)

    def inside(self, member):
        """What comes while a call is open."""
        return [(event, later) for event, later in self.moves(member) if later != NOT_LET and later[1] != ()]

    def open_members(self):
        """All members that come with a call open, in the sequence of the events they need."""
        return [member for member in self.ways if member[1] != ()]

    def is_ask(self, event):
        """Whether an event is an ask of the part; in the whole of any part."""
        if event[1] != "call":
            return False
        return event[0][0] == self.name if self.name else event[0][0] != ""

    def weight(self, event):
        return 1 if self.is_ask(event) else 0

    def has_form(self, value):
        """Whether any value is a member by its form."""
        return self.ground.is_scene(value) if self.name else self.ground.is_moment(value)


def asking_of_part(system, name, most_scenes):
    bench = Bench(system, name)
    return Asking(bench, ways_kept(bench, most_scenes), name)


def asking_of_whole(system, most_moments):
    stage = Stage(system)
    run, ways = search([stage.first()], lambda moment: stage.moves(moment), most_moments)
    if run:
        raise NotKept("")
    return Asking(stage, ways, "")


def most(system, name):
    """("most", number of asks, run, heights), or ("endless", run, ring)."""
    return most_asked(asking_of_part(system, name, MOST_MEMBERS))


def asks(system):
    """As most, of all parts and the calls of the outside."""
    return most_asked(asking_of_whole(system, MOST_MEMBERS))


def shows_most(system, name, value):
    """Whether any value is a result that most may tell, right by itself."""
    return shows_asking(asking_of_part(system, name, None), value)


def shows_asks(system, value):
    """Whether any value is a result that asks may tell, right by itself."""
    return shows_asking(asking_of_whole(system, None), value)


def most_asked(asking):
    members = asking.open_members()
    inside = lambda member: asking.inside(member)
    found = ring_among(members, inside, lambda event: asking.is_ask(event))
    if found is not None:
        return "endless", run_to(asking.ways, found[0]), found[1]
    heights = heights_among(members, inside, lambda event: asking.is_ask(event))
    table = tuple(sorted([(member, heights[member]) for member in members]))
    if not members:
        return "most", 0, (), table
    greatest = max([height for _, height in table])
    # Ahead of such a member its call has set off nothing: otherwise there were a greater height.
    start = [member for member in members if heights[member] == greatest][0]
    return "most", greatest, run_to(asking.ways, start) + run_down(asking, heights, start), table


def run_down(asking, heights, start):
    """The events from a member to the answer of its call by which as many asks come as can."""
    return search([start], lambda member: steepest(asking, heights, member), None)[0]


def steepest(asking, heights, member):
    """What comes at a member without losing asks that can come; () is behind the answer to its first call."""
    found = []
    for event, later in asking.moves(member):
        if later[1] == ():
            if heights[member] == 0:
                found.append((event, ()))
        elif heights[member] == heights[later] + asking.weight(event):
            found.append((event, later))
    return found


def shows_asking(asking, value):
    if is_tuple(value, 3):
        return value[0] == "endless" and is_endless(asking, value[1], value[2])
    if not is_tuple(value, 4) or value[0] != "most" or not is_integer(value[1]):
        return False
    _, number, run, heights = value
    if not are_heights(asking, number, heights):
        return False
    told = {member: True for member, _ in heights}
    members = asking.open_members()
    if not all([member in told for member in members]):
        return False
    if not members:
        return number == 0 and run == ()
    return sets_off(asking, number, run)


def are_heights(asking, number, value):
    """Whether any value is an ascending tuple of (member, height), none above the number, that are so."""
    if not isinstance(value, tuple) or not all([is_height(asking, number, row) for row in value]):
        return False
    told = {member: height for member, height in value}
    if len(told) < len(value) or not ascends(value):
        return False
    return all([is_high_enough(asking, told, member) for member in told])


def is_height(asking, number, value):
    """Whether any value is a member by its form with a call open, and a height."""
    if not is_tuple(value, 2) or not is_below(value[1], number + 1):
        return False
    return asking.has_form(value[0]) and value[0][1] != ()


def is_high_enough(asking, told, member):
    """Whether what comes at a member is let, and told with heights that are small enough."""
    laters = [(event, later) for event, later in asking.moves(member) if later == NOT_LET or later[1] != ()]
    if not all([later in told for _, later in laters]):
        return False
    return all([told[member] >= told[later] + asking.weight(event) for event, later in laters])


def sets_off(asking, number, value):
    """Whether any value is a run that ends with an answer to the first call that is open, which set off so many."""
    if not isinstance(value, tuple) or value == ():
        return False
    members = [asking.ground.first()]
    many = 0
    for event in value:
        # What is open is the same at all members behind the same events.
        if members[0][1] == ():
            many = 0
        members = [later for later in members_behind(members, lambda m: asking.moves(m), event) if later != NOT_LET]
        if not members:
            return False
        many += asking.weight(event)
    return members[0][1] == () and many == number


def is_endless(asking, run, ring):
    """Whether any values are a run to a member with a call open, and a ring back to it with an ask in it."""
    if not isinstance(run, tuple) or not isinstance(ring, tuple):
        return False
    starts = members_along(asking.ground.first(), lambda member: asking.moves(member), run)
    for start in [member for member in starts if member[1] != ()]:
        if start in members_along(start, lambda member: asking.inside(member), ring):
            return [event for event in ring if asking.is_ask(event)] != []
    return False


def bound(system):
    """For each outer wire a number of asks that no call over it sets off more than, None if there is none."""
    results = {name: most(system, name) for name in system.parts}
    endless = "endless" in [results[name][0] for name in system.parts]
    return tuple([
        (wire, None if endless else bound_of(system, results, system.offerer(wire), ()))
        for wire in system.wires if wire[0] == ""
    ])


def bound_of(system, results, name, waiting):
    """How many asks a call of a part can set off while those that are waiting answer at once."""
    if name in waiting:
        return 0
    offerers = [system.offerer((name, port)) for port in system.part(name).ports]
    below = [bound_of(system, results, offerer, waiting + (name,)) for offerer in offerers]
    return results[name][1] * (1 + max(below, default=0))
