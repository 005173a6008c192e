"""Parts that are surely found out by whoever plays all that comes to them."""

from truestandins.errors import TooMany
from truestandins.forms import ascends, is_integer, is_tuple
from truestandins.keeping import are_scenes
from truestandins.scenes import NOT_LET, Bench
from truestandins.searching import MOST_MEMBERS

NO_RANK = -1


class Tester:
    """Who plays all that comes to a part, and sees what it does.

    A member is the ascending tuple of all scenes that fit what was seen.
    """

    def __init__(self, system, name, part):
        self.bench = Bench(system.with_part(name, part), name)

    def first(self):
        return (self.bench.first(),)

    def plays(self, member):
        """For each event of the tester the members to which events of the part lead, () by one that is not let."""
        plays = {}
        for scene in member:
            for event, came in self.bench.moves(scene):
                behind = plays.setdefault(event, {})
                for own, later in self.bench.moves(came):
                    fitting = behind.setdefault(own, {})
                    if later != NOT_LET:
                        fitting[later] = True
        return [[tuple(sorted(scenes)) for scenes in laters.values()] for laters in plays.values()]

    def is_member(self, value):
        """Whether any value is a member by its form: its scenes differ by inner alone."""
        if value == () or not are_scenes(self.bench, value):
            return False
        return all([scene[1:] == value[0][1:] and scene[3] == () for scene in value])


def found_out(system, name, part):
    """("caught", number of events, all members with their ranks), or ("hides", the members)."""
    tester = Tester(system, name, part)
    nexts = members_met(tester)
    ranks = ranks_of(nexts)
    table = tuple(sorted([(member, ranks[member]) for member in nexts]))
    rank = ranks[tester.first()]
    return ("hides", table) if rank == NO_RANK else ("caught", rank, table)


def members_met(tester):
    """All members that can come, and what can be played at them."""
    nexts = {}
    queue = [tester.first()]
    met = {queue[0]: True}
    while len(nexts) < len(queue):
        member = queue[len(nexts)]
        nexts[member] = tester.plays(member)
        for later in [later for laters in nexts[member] for later in laters]:
            if later != () and later not in met:
                met[later] = True
                queue.append(later)
        if len(queue) > MOST_MEMBERS:
            raise TooMany(MOST_MEMBERS)
    return nexts


def ranks_of(nexts):
    """The least number of events from each member by which the part is surely found out, -1 if there is none."""
    ranks = {member: NO_RANK for member in nexts}
    ahead = {member: [] for member in nexts}
    left = {}
    level = []
    for member in nexts:
        for at, laters in enumerate(nexts[member]):
            behind = [later for later in laters if later != ()]
            left[member, at] = len(behind)
            for later in behind:
                ahead[later].append((member, at))
            if not behind:
                level.append(member)
    rank = 1
    while level:
        fresh = list({member: True for member in level if ranks[member] == NO_RANK})
        level = []
        for later in fresh:
            ranks[later] = rank
            for member, at in ahead[later]:
                left[member, at] -= 1
                if left[member, at] == 0:
                    level.append(member)
        rank += 1
    return ranks


def shows_found_out(system, name, part, value):
    """Whether any value is a result that found_out may tell, right by itself."""
    tester = Tester(system, name, part)
    if is_tuple(value, 3) and value[0] == "caught":
        _, rank, table = value
    elif is_tuple(value, 2) and value[0] == "hides":
        rank, table = NO_RANK, value[1]
    else:
        return False
    if not is_integer(rank) or not are_ranked(tester, table):
        return False
    ranks = {member: told for member, told in table}
    if len(ranks) < len(table) or tester.first() not in ranks or ranks[tester.first()] != rank:
        return False
    return (rank == NO_RANK) == (value[0] == "hides") and all([is_rank(tester, ranks, member) for member in ranks])


def are_ranked(tester, value):
    """Whether any value is an ascending tuple of members with ranks by their form."""
    return isinstance(value, tuple) and all([is_ranked(tester, row) for row in value]) and ascends(value)


def is_ranked(tester, value):
    return is_tuple(value, 2) and is_integer(value[1]) and tester.is_member(value[0])


def is_rank(tester, ranks, member):
    """Whether the rank that is told of a member is right if the others are, all behind it being told."""
    found = []
    for laters in tester.plays(member):
        if not all([later == () or later in ranks for later in laters]):
            return False
        behind = [0 if later == () else ranks[later] for later in laters]
        if NO_RANK not in behind:
            found.append(1 + max(behind))
    return ranks[member] == min(found, default=NO_RANK)
