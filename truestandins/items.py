"""Items: calls that pacts let in a state, and answers that they let then.

An item is (wire, state, door, worth) or (wire, state, door, worth, answer).
"""

ANSWER_SIZE = 5


def items_of(system):
    """All items of a system, ascending."""
    found = []
    for wire in system.wires:
        for number, state in enumerate(system.pact(wire)):
            for door, worth, outcomes in state:
                call = (wire, number, door, worth)
                found.append(call)
                found.extend([call + (answer,) for answer, _ in outcomes])
    return sorted(found)


def producer(system, item):
    """The name of the part whose event an item is, "" for the outside."""
    wire = item[0]
    return system.offerer(wire) if len(item) == ANSWER_SIZE else wire[0]


def is_outer_call(item):
    return item[0][0] == "" and len(item) < ANSWER_SIZE


def moves_beside(bench, allows, scene):
    """What can come at a scene beside tables that let the items that are allowed, and all calls of the outside.

    What the part itself does comes in any case.
    """
    if scene[3] != ():
        return bench.moves(scene)
    found = []
    for event, later in bench.moves(scene):
        item = bench.item(scene, event)
        if is_outer_call(item) or allows(item):
            found.append((event, later))
    return found
