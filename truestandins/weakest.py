"""The weakest pact of a wire with which both of its ends still keep all pacts."""

from truestandins.errors import TooMany
from truestandins.forms import ascends, is_integer, is_plain, is_tuple
from truestandins.keeping import need_kept
from truestandins.nodes import NOT_BAD, Nodes, ranks_of
from truestandins.pacts import first_more, least_of
from truestandins.searching import MOST_MEMBERS


def weakest(system, wire):
    """("pact", the least weakest pact, all nodes with their ranks), or ("none", the nodes)."""
    nodes = Nodes(system, wire)
    nexts = nodes.come(MOST_MEMBERS)
    ranks = ranks_of(nodes, nexts)
    table = tuple(sorted([nodes.shown(node) + (ranks[node],) for node in nexts]))
    if ranks[nodes.first()] != NOT_BAD:
        return "none", table
    return "pact", least_of(states_let(nodes, lambda node: ranks[node] == NOT_BAD)), table


def stand_in(system, wire):
    """The least pact of the words of the weakest one that the user can have, None if there is none."""
    nodes = Nodes(system, wire)
    ranks = ranks_of(nodes, nodes.come(MOST_MEMBERS))
    if ranks[nodes.first()] != NOT_BAD:
        return None
    if wire[0] == "":
        return least_of(states_let(nodes, lambda node: ranks[node] == NOT_BAD))
    return least_of(states_let(nodes, lambda node: ranks[node] == NOT_BAD and nodes.users.groups[node[0]] != ()))


def loose(system):
    """For each wire that is not outer the first word that its stand_in lets and its pact does not."""
    need_kept(system, MOST_MEMBERS)
    wires = [wire for wire in system.wires if wire[0] != ""]
    return tuple([(wire, first_more(stand_in(system, wire), system.pact(wire))) for wire in wires])


def states_let(nodes, lets):
    """The states of the pact that lets all calls and answers whose nodes are let, from the first one on."""
    numbers = {nodes.first(): 0}
    queue = list(numbers)
    states = []
    while len(states) < len(queue):
        calls = nodes.all_behind(queue[len(states)])
        rows = []
        for door, worth in calls:
            called = calls[door, worth]
            answers = nodes.all_behind(called) if lets(called) else {}
            let = {answer: answers[answer] for answer in answers if lets(answers[answer])}
            for later in let.values():
                if later not in numbers:
                    numbers[later] = len(queue)
                    queue.append(later)
            if let:
                rows.append((door, worth, tuple((answer, numbers[let[answer]]) for answer in let)))
        states.append(tuple(rows))
    return tuple(states)


def shows_weakest(system, wire, value):
    """Whether any value is a result that weakest may tell, right by itself."""
    nodes = Nodes(system, wire)
    if not is_plain(value) or not isinstance(value, tuple) or value[:1] not in (("pact",), ("none",)):
        return False
    if len(value) != (3 if value[0] == "pact" else 2):
        return False
    ranks = ranks_told(nodes, value[-1])
    if not ranks or not all([is_rank(nodes, ranks, node) for node in ranks]):
        return False
    if value[0] == "none":
        return ranks[nodes.first()] != NOT_BAD
    if ranks[nodes.first()] != NOT_BAD:
        return False
    try:
        pact = least_of(states_let(nodes, lambda node: ranks[node] == NOT_BAD))
    except TooMany:
        return False
    return value[1] == pact


def ranks_told(nodes, table):
    """The ranks of the nodes in a table, {} if it is no ascending tuple of nodes, each once, with the first one."""
    if not isinstance(table, tuple) or not all([is_ranked(nodes, row) for row in table]):
        return {}
    wanted = {row[:3]: row[3] for row in table}
    ranks = nodes_wanted(nodes, wanted)
    if len(wanted) < len(table) or len(ranks) < len(wanted) or nodes.first() not in ranks:
        return {}
    return ranks if ascends(table) else {}


def is_ranked(nodes, value):
    """Whether any value is a node with a rank by its form."""
    return is_tuple(value, 4) and is_integer(value[3]) and nodes.is_formed(value[:3])


def nodes_wanted(nodes, wanted):
    """The ranks of the nodes that are wanted as they are shown.

    Some may stand behind nodes where a pact is broken, which may be far more: these are looked at last.
    """
    level = [nodes.first()]
    met = {node: True for node in level}
    broken = []
    found = {}
    while level and len(found) < len(wanted):
        for node in level:
            shown = nodes.shown(node)
            if shown in wanted:
                found[node] = wanted[shown]
        broken.extend([node for node in level if nodes.is_broken(node)])
        level = fresh_behind(nodes, met, [node for node in level if not nodes.is_broken(node)])
        if not level:
            level = fresh_behind(nodes, met, broken)
            broken = []
    return found


def fresh_behind(nodes, met, level):
    """The nodes behind those of a level that were not met yet."""
    found = []
    for node in level:
        for later in nodes.all_behind(node).values():
            if later not in met:
                met[later] = True
                found.append(later)
    return found


def is_rank(nodes, ranks, node):
    """Whether the rank that is told of a node is right if the others are."""
    rank = ranks[node]
    broken = nodes.is_broken(node)
    if rank == 0 or rank == NOT_BAD and broken:
        return rank == 0 and broken
    behind = nodes.all_behind(node)
    if rank == NOT_BAD and not all([later in ranks for later in behind.values()]):
        return False
    bad = [letter for letter in behind if shows_bad(ranks, behind[letter], rank)]
    comes = [letter for letter in bad if nodes.can_come(node, letter)] != []
    none_left = node[2] != () and len(bad) == len(behind)
    return (comes or none_left) == (rank != NOT_BAD)


def shows_bad(ranks, node, rank):
    """Whether a node is told to be bad, by a lesser rank if the one before it has a rank."""
    told = ranks.get(node, NOT_BAD)
    return told != NOT_BAD and (rank == NOT_BAD or told < rank)
