"""What comes from first members on, runs of fewest events, and what any value shows of these."""

from truestandins.errors import TooMany
from truestandins.forms import is_like

MOST_MEMBERS = 4000


def search(starts, moves, most=MOST_MEMBERS):
    """(run, ways): a run of fewest events to one that is not let, or (), and how all members were met.

    moves(member) gives (event, member behind it), () being behind an event that is not let.
    ways has members in the sequence of the events they need: (member ahead, event), () of the starts.
    More than most members, unless this is None, are not looked at.
    """
    ways = {member: () for member in starts}
    level = list(ways)
    while level:
        if most is not None and len(ways) > most:
            raise TooMany(most)
        steps = [(member, event, later) for member in level for event, later in moves(member)]
        for member, event, later in steps:
            if later == ():
                return run_to(ways, member) + (event,), ways
        level = []
        for member, event, later in steps:
            if later not in ways:
                ways[later] = (member, event)
                level.append(later)
    return (), ways


def run_to(ways, member):
    """The events by which a member was met."""
    events = []
    while ways[member]:
        member, event = ways[member]
        events.append(event)
    return tuple(events[::-1])


def is_closed(starts, moves, members):
    """Whether members have the starts, and with each all that come behind it, each by an event that is let."""
    known = {member: True for member in members}
    if not all([member in known for member in starts]):
        return False
    return all([later in known for member in members for _, later in moves(member)])


def is_run_to_fault(start, moves, value):
    """Whether any value is a run whose last event, and none but this, is not let."""
    if not isinstance(value, tuple) or value == ():
        return False
    return () in members_behind(members_along(start, moves, value[:-1]), moves, value[-1])


def members_along(start, moves, events):
    """All members at which one can be behind a tuple of any values, [] unless they are events that come and are let."""
    members = [start]
    for event in events:
        members = [later for later in members_behind(members, moves, event) if later != ()]
    return members


def members_behind(members, moves, value):
    """All that is behind an event at one of the members, () among it if it is not let."""
    found = {}
    for member in members:
        for event, later in moves(member):
            if value == event and is_like(value, event):
                found[later] = True
    return list(found)
