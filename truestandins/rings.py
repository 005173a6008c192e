"""Members that lead round to themselves, and how many events that count can come from others.

moves(member) gives (event, member behind it), all of them members that are asked for, too.
"""

from truestandins.searching import search


def groups_of(nexts):
    """A number for each member; those that lead to one another have the same one.

    nexts tells the members behind each member. Who leads to a member of another group has a lesser number.
    """
    ahead = {member: [] for member in nexts}
    for member in nexts:
        for later in nexts[member]:
            ahead[later].append(member)
    groups = {}
    many = 0
    for member in reversed(as_left(nexts)):
        level = [] if member in groups else [member]
        while level:
            reached = level.pop()
            if reached not in groups:
                groups[reached] = many
                level.extend(ahead[reached])
        many += 1
    return groups


def as_left(nexts):
    """All members, each one behind all that are first met from it."""
    found = []
    met = {}
    for start in nexts:
        path = [] if start in met else [(start, 0)]
        met[start] = True
        while path:
            member, at = path.pop()
            behind = nexts[member]
            while at < len(behind) and behind[at] in met:
                at += 1
            if at == len(behind):
                found.append(member)
            else:
                met[behind[at]] = True
                path.extend([(member, at + 1), (behind[at], 0)])
    return found


def groups_among(members, moves):
    return groups_of({member: [later for _, later in moves(member)] for member in members})


def ring_among(members, moves, counts):
    """(member, events from it back to it, one of which counts), None if there is no such ring."""
    groups = groups_among(members, moves)
    for member in members:
        for event, later in moves(member):
            if counts(event) and groups[member] == groups[later]:
                return member, (event,) + way_back(moves, later, member)
    return None


def way_back(moves, start, end):
    """Events from one member to another, () if they are the same."""
    if start == end:
        return ()
    # The search ends at what is not let: here this stands for the end.
    back = lambda member: [(event, () if later == end else later) for event, later in moves(member)]
    return search([start], back, None)[0]


def heights_among(members, moves, counts):
    """For each member the greatest number of events that count from it on, where no ring has one."""
    groups = groups_among(members, moves)
    heights = {}
    for member in sorted(members, key=lambda member: -groups[member]):
        found = [heights.get(groups[member], 0)]
        for event, later in moves(member):
            if groups[later] != groups[member]:
                found.append(heights[groups[later]] + (1 if counts(event) else 0))
        heights[groups[member]] = max(found)
    return {member: heights[groups[member]] for member in members}
