"""Sections 8 and 9 once more, written as plainly as their words: what the program tells is held against this."""

from tests import plainly
from tests.plainparts import plain_answered, plain_called


def first_moment(system):
    inners = tuple((tuple(worth for _, worth in system.part(name).cells), ()) for name in system.parts)
    return (inners, (), (), tuple(0 for _ in system.wires))


def lets(system, moment, wire):
    """The rows that the pact of a wire lets now: (door, worth) -> {answer: next}."""
    state = moment[3][system.wires.index(wire)]
    return {(door, worth): dict(outcomes) for door, worth, outcomes in system.pact(wire)[state]}


def events_of(system, moment):
    """All (event, moment behind it) that can come; None behind what is not let."""
    inners, stack, given, states = moment
    found = []
    if not stack:
        for wire in [wire for wire in system.wires if wire[0] == ""]:
            for door, worth in lets(system, moment, wire):
                found.append(((wire, "call", door, worth), (inners, ((wire, door, worth),), (), states)))
        return found
    name = given[0][0] if given else system.offerer(stack[-1][0])
    at = system.parts.index(name)
    if given:
        deeds = plain_answered(system.part(name), inners[at], given[1])
    else:
        deeds = plain_called(system.part(name), inners[at], stack[-1][1], stack[-1][2])
    for deed, later in deeds:
        others = tuple(later if number == at else inner for number, inner in enumerate(inners))
        if deed[0] == "asks":
            wire = (name, deed[1])
            is_let = deed[2:] in lets(system, moment, wire)
            found.append(((wire, "call") + deed[2:],
                          (others, stack + ((wire,) + deed[2:],), (), states) if is_let else None))
            continue
        wire, door, worth = stack[-1]
        state = lets(system, moment, wire).get((door, worth), {}).get(deed[1])
        behind = None
        if state is not None:
            moved = tuple(state if other == wire else elder for other, elder in zip(system.wires, states))
            behind = (others, stack[:-1], (wire, deed[1]) if wire[0] else (), moved)
        found.append(((wire, "answer", deed[1]), behind))
    return found


def kept_or_broken(system, start=()):
    """(all moments that can come, how many events the shortest run to one that is not let has; None for none)."""
    level = [first_moment(system)] + list(start)
    moments = set(level)
    events = 0
    while level:
        events += 1
        behind = [later for moment in level for _, later in events_of(system, moment)]
        if None in behind:
            return moments, events
        level = sorted(set(behind) - moments)
        moments.update(level)
    return moments, None


def is_fault_run(system, run):
    moments = [first_moment(system)]
    for at, event in enumerate(run):
        laters = [later for moment in moments for known, later in events_of(system, moment) if known == event]
        if not laters or None in laters:
            return None in laters and at == len(run) - 1
        moments = laters
    return False


def is_moment(system, moment):
    """Whether a tuple of four tuples of the right kinds is a moment by its form."""
    inners, stack, given, states = moment
    waits = {}
    for name, (_, wait) in zip(system.parts, inners):
        if wait:
            port, door = plainly.asks_at(system.part(name))[wait[0]]
            waits[name] = ((name, port), door)
    if stack == () and given == ():
        return not waits
    if stack == () or stack[0][0][0] != "":
        return False
    offerers = [system.offerer(wire) for wire, _, _ in stack]
    for at, (wire, door, worth) in enumerate(stack):
        if door not in system.part(offerers[at]).doors or worth not in range(system.worths):
            return False
        if at and waits.get(offerers[at - 1]) != (wire, door):
            return False
    if not set(waits) <= set(offerers):
        return False
    if given:
        if given[1] not in range(-2, system.worths):
            return False
        return len(set(offerers)) == len(offerers) and waits.get(offerers[-1], ("",))[0] == given[0]
    return len(set(offerers[:-1])) == len(offerers) - 1


# Items: (wire, state, door, worth) and (wire, state, door, worth, answer).

def all_items(system):
    found = set()
    for wire in system.wires:
        for number, state in enumerate(system.pact(wire)):
            for door, worth, outcomes in state:
                found.add((wire, number, door, worth))
                found.update((wire, number, door, worth, answer) for answer, _ in outcomes)
    return tuple(sorted(found))


def item_of_moment(system, moment, event):
    wire = event[0]
    number = moment[3][system.wires.index(wire)]
    return (wire, number) + (event[2:] if event[1] == "call" else moment[1][-1][1:] + event[2:])


def item_of_scene(system, name, scene, event):
    wire = event[0]
    number = scene[4][plainly.wires_of(system, name).index(wire)]
    if event[1] == "call":
        return (wire, number) + event[2:]
    call = [call for call in scene[1][::-1] + (scene[2],) if call and call[0] == wire][0]
    return (wire, number) + call[1:] + event[2:]


def whole_items(system):
    """For each item to which runs of the whole come the number of events of the shortest one."""
    found = {}
    level, met, events = [first_moment(system)], {first_moment(system)}, 0
    while level:
        events += 1
        steps = [(moment, event, later) for moment in level for event, later in events_of(system, moment)]
        for moment, event, _ in steps:
            found.setdefault(item_of_moment(system, moment, event), events)
        level = sorted(set(later for _, _, later in steps) - met)
        met.update(level)
    return found


def beside(system, name, items, start=()):
    """All scenes of a part beside tables that let these items, and all items of its own events at them."""
    level = [plainly.first_scene(system, name)] + list(start)
    scenes, own = set(level), set()
    while level:
        fresh = set()
        for scene in level:
            for event, later in plainly.events_at(system, name, scene):
                item = item_of_scene(system, name, scene, event)
                if scene[3]:
                    own.add(item)
                elif item not in items and (item[0][0] != "" or len(item) == 5):
                    continue
                fresh.add(later)
        level = sorted(fresh - scenes)
        scenes.update(level)
    return scenes, own


def least_set(system):
    """The least set of items that closes."""
    items = set()
    while True:
        own = [beside(system, name, items)[1] for name in system.parts]
        if all(items.issuperset(some) for some in own):
            return items
        items.update(*own)
