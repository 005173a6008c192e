"""Why a word is not in the weakest pact of a wire.

Words, perhaps with a call behind them, are tuples of letters here: calls,
(door, worth), and answers, by turns. Trees may be deep, so none is walked by
functions that call themselves.
"""

from truestandins.errors import BadMore, BadWord
from truestandins.forms import is_integer, is_tuple
from truestandins.nodes import NOT_BAD, Nodes, event_of, ranks_of
from truestandins.pacts import is_word
from truestandins.searching import MOST_MEMBERS, is_run_to_fault, search


def why_not(system, wire, word, more):
    """A tree that tells why more is not let behind the word, None if it is let."""
    nodes = Nodes(system, wire)
    ranks, letters = bad_and_asked(nodes, word, more, MOST_MEMBERS)
    return None if letters is None else tree_of(nodes, ranks, letters)


def shows_why_not(system, wire, word, more, value):
    """Whether any value is a result that why_not may tell, right by itself."""
    nodes = Nodes(system, wire)
    _, letters = bad_and_asked(nodes, word, more, None)
    return value is None if letters is None else is_tree(nodes, letters, value)


def bad_and_asked(nodes, word, more, most):
    """(ranks of all nodes, the letters up to the first one that is not let; None if all are let)."""
    if not is_word(word):
        raise BadWord(word)
    if word == () and not is_more(nodes, word, more):
        raise BadMore(more)
    ranks = ranks_of(nodes, nodes.come(most))
    begun = letters_of_word(word)
    if word != () and first_bad(nodes, ranks, begun) is not None:
        raise BadWord(word)
    if not is_more(nodes, word, more):
        raise BadMore(more)
    return ranks, first_bad(nodes, ranks, begun + letters_of_more(more))


def is_more(nodes, word, value):
    """Whether any value is a call over the wire, or one with an answer, or () behind the empty word."""
    if value == ():
        return word == ()
    if not isinstance(value, tuple) or len(value) not in (2, 3):
        return False
    if not is_integer(value[1]) or value[:2] not in nodes.doors:
        return False
    return len(value) == 2 or is_integer(value[2]) and value[2] in nodes.replies


def letters_of_word(word):
    """The calls and answers of a word, by turns."""
    letters = ()
    for letter in word:
        letters += letters_of_more(letter)
    return letters


def letters_of_more(more):
    return (more[:2], *more[2:]) if more else ()


def first_bad(nodes, ranks, letters):
    """The fewest of these letters, from the first one on, that lead to a bad node or to none, None if all are let."""
    node = nodes.first()
    for many, letter in enumerate(letters):
        if ranks[node] != NOT_BAD or letter not in nodes.letters(node):
            return letters[:many]
        node = nodes.behind(node, letter)
    return None if ranks[node] == NOT_BAD else letters


def tree_of(nodes, ranks, letters):
    """A tree that tells why these letters are not let."""
    places = [letters]
    plans = []
    while len(plans) < len(places):
        head, below = plan_of(nodes, ranks, places[len(plans)])
        plans.append((head, len(places), len(below)))
        places.extend(below)
    trees = {}
    for at in reversed(range(len(plans))):
        head, start, many = plans[at]
        below = tuple(trees[start + number] for number in range(many))
        trees[at] = head + (below,) if head == ("all",) else head + below
    return trees[0]


def plan_of(nodes, ranks, letters):
    """(a tree without the trees below it, the letters for which these stand)."""
    node = nodes.first()
    for letter in letters:
        node = nodes.behind(node, letter)
    if nodes.is_broken(node):
        side = nodes.users if nodes.users.faults[node[0]] else nodes.offers
        return ("breaks", side.bench.name, run_along(side, letters, lambda event: event[0] != nodes.wire)), []
    for letter in nodes.letters(node):
        rank = ranks[nodes.behind(node, letter)]
        if NOT_BAD < rank < ranks[node] and nodes.can_come(node, letter):
            wanted = event_of(nodes.wire, letter)
            run = run_along(doer(nodes, letters), letters, lambda event: event == wanted)
            return (verb(letters), run), [letters + (letter,)]
    return ("all",), [letters + (answer,) for answer in nodes.replies]


def verb(letters):
    return "gives" if letters_open(letters) else "makes"


def doer(nodes, letters):
    """The side that can go on over the wire."""
    return nodes.offers if letters_open(letters) else nodes.users


def letters_open(letters):
    """Whether the last of these letters is a call."""
    return len(letters) & 1 == 1


def run_along(side, letters, ends):
    """A run of a side, over its wire just by these letters, to an event that ends it."""
    return search([(0, side.bench.first())], lambda member: moves_along(side, letters, ends, member), None)[0]


def moves_along(side, letters, ends, member):
    """What can come at (how many of the letters have come, scene); () is behind an event that ends a run.

    It is one behind all letters by which the part breaks another pact, or goes on over its wire.
    """
    at, scene = member
    found = []
    for event, later in side.bench.moves(scene):
        over = event[0] == side.wire
        if at == len(letters) and (over or later == ()) and ends(event):
            found.append((event, ()))
        elif at < len(letters) and event == event_of(side.wire, letters[at]):
            found.append((event, (at + 1, later)))
        elif not over and later != ():
            found.append((event, (at, later)))
    return found


def is_tree(nodes, letters, value):
    """Whether any value is a tree that tells why these letters are not let."""
    left = [(letters, value)]
    while left:
        begun, tree = left.pop()
        below = trees_below(nodes, begun, tree)
        if below is None:
            return False
        left.extend(below)
    return True


def trees_below(nodes, letters, value):
    """All (letters, any value that should be their tree) below what should be a tree, None if it is none."""
    if is_tuple(value, 2) and value[0] == "all" and letters_open(letters):
        if not is_tuple(value[1], len(nodes.replies)):
            return None
        return [(letters + (answer,), tree) for answer, tree in zip(nodes.replies, value[1])]
    if not is_tuple(value, 3):
        return None
    if value[0] == "breaks":
        return [] if is_break(nodes, letters, value[1], value[2]) else None
    side = doer(nodes, letters)
    if value[0] != verb(letters) or not is_run_along(side, letters, lambda event: event[0] == nodes.wire, value[1]):
        return None
    last = value[1][-1]
    return [(letters + ((last[2:],) if last[1] == "call" else last[2:]), value[2])]


def is_break(nodes, letters, name, run):
    """Whether a run of the user or of the offerer, who has this name, breaks another pact behind these letters."""
    for side in (nodes.users, nodes.offers):
        if side.bench is not None and side.bench.name == name:
            return is_run_along(side, letters, lambda event: event[0] != nodes.wire, run)
    return False


def is_run_along(side, letters, ends, value):
    """Whether any value is such a run as run_along tells, or a longer one; the outside has none."""
    if side.bench is None:
        return False
    start = (0, side.bench.first())
    return is_run_to_fault(start, lambda member: moves_along(side, letters, ends, member), value)
