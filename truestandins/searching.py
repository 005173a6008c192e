"""What comes from a first member on, and runs of fewest events."""

from truestandins.errors import TooMany
from truestandins.forms import is_integer

MOST_MEMBERS = 4000


def search(first, moves):
    """(run, members): a run of fewest events to one that is not let, or () and all members that can come.

    moves(member) gives (event, member behind it), () being behind an event that is not let.
    """
    ways = {first: ()}
    level = [first]
    while level:
        steps = [(member, event, later) for member in level for event, later in moves(member)]
        for member, event, later in steps:
            if later == ():
                return run_to(ways, member) + (event,), []
        level = []
        for member, event, later in steps:
            if later not in ways:
                ways[later] = (member, event)
                level.append(later)
            if len(ways) > MOST_MEMBERS:
                raise TooMany(MOST_MEMBERS)
    return (), list(ways)


def run_to(ways, member):
    """The events by which a member was met."""
    events = []
    while ways[member]:
        member, event = ways[member]
        events.append(event)
    return tuple(events[::-1])


def is_closed(first, moves, members):
    """Whether members have the first one, and with each all that come behind it, each by an event that is let."""
    known = {member: True for member in members}
    return first in known and all([later in known for member in members for _, later in moves(member)])


def is_run_to_fault(first, moves, value):
    """Whether any value is a run whose last event, and none but this, is not let."""
    if not isinstance(value, tuple) or value == ():
        return False
    members = [first]
    for event in value[:-1]:
        members = [later for later in members_behind(members, moves, event) if later != ()]
    return () in members_behind(members, moves, value[-1])


def members_behind(members, moves, value):
    """All that is behind an event at one of the members, () among it if it is not let."""
    found = {}
    for member in members:
        for event, later in moves(member):
            if is_like(value, event):
                found[later] = True
    return list(found)


def is_like(value, known):
    """Whether any value is a tuple of integers, strings and tuples, in their kinds, too."""
    if isinstance(known, tuple):
        if not isinstance(value, tuple) or len(value) != len(known):
            return False
        return all([is_like(one, other) for one, other in zip(value, known)])
    return is_integer(value) == is_integer(known) and value == known
