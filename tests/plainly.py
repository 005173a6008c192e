"""Section 7 once more, written as plainly as its words: what the program tells is held against this."""

from tests.plainparts import plain_answered, plain_called


def wires_of(system, name):
    return [wire for wire in system.wires if system.offerer(wire) == name or wire[0] == name]


def first_scene(system, name):
    cells = tuple(worth for _, worth in system.part(name).cells)
    return ((cells, ()), (), (), (), tuple(0 for _ in wires_of(system, name)))


def may_call_amid(system, name, user, asked, caller):
    """Whether there is a way from the part that was asked to the caller, by wires that begin at none of the two."""
    if caller in ("", name, user):
        return False

    def leads(at, been):
        if at == caller:
            return True
        if at in (name, user):
            return False
        nexts = [system.offerer((at, port)) for port in system.part(at).ports]
        return any(leads(later, been + [at]) for later in nexts if later not in been)

    return leads(asked, [])


def rows_of(system, name, scene, wire):
    """The rows that the pact of a wire lets now: (door, worth) -> {answer: next}."""
    state = scene[4][wires_of(system, name).index(wire)]
    return {(door, worth): dict(outcomes) for door, worth, outcomes in system.pact(wire)[state]}


def with_state(system, name, scene, wire, state):
    at = wires_of(system, name).index(wire)
    return tuple(state if number == at else elder for number, elder in enumerate(scene[4]))


def events_at(system, name, scene):
    """All (event, scene behind it) that can come; None behind what is not let."""
    inner, opens, asked, coming, states = scene
    part = system.part(name)
    to_it = [wire for wire in wires_of(system, name) if system.offerer(wire) == name]
    found = []
    if coming == () and opens == ():
        for wire in to_it:
            for door, worth in rows_of(system, name, scene, wire):
                found.append(((wire, "call", door, worth),
                              (inner, ((wire, door, worth),), (), ("call",), states)))
        return found
    if coming == ():
        wire, door, worth = asked
        for answer, state in rows_of(system, name, scene, wire).get((door, worth), {}).items():
            found.append(((wire, "answer", answer),
                          (inner, opens, (), ("answer", answer), with_state(system, name, scene, wire, state))))
        for other in to_it:
            if may_call_amid(system, name, opens[0][0][0], system.offerer(wire), other[0]):
                for door, worth in rows_of(system, name, scene, other):
                    found.append(((other, "call", door, worth),
                                  (inner, opens + ((other, door, worth),), asked, ("call",), states)))
        return found
    if len(opens) == 2:
        deeds = [(("gives", -2), inner)]
    elif coming == ("call",):
        deeds = plain_called(part, inner, opens[0][1], opens[0][2])
    else:
        deeds = plain_answered(part, inner, coming[1])
    for deed, later in deeds:
        if deed[0] == "asks":
            wire = (name, deed[1])
            lets = deed[2:] in rows_of(system, name, scene, wire)
            found.append(((wire, "call") + deed[2:], (later, opens, (wire,) + deed[2:], (), states) if lets else None))
        else:
            wire, door, worth = opens[-1]
            state = rows_of(system, name, scene, wire).get((door, worth), {}).get(deed[1])
            behind = None
            if state is not None:
                behind = (later, opens[:-1], asked, (), with_state(system, name, scene, wire, state))
            found.append(((wire, "answer", deed[1]), behind))
    return found


def kept_or_broken(system, name, start=()):
    """(all scenes that can come, how many events the shortest run to one that is not let has; None for none)."""
    level = [first_scene(system, name)] + list(start)
    scenes = set(level)
    events = 0
    while level:
        events += 1
        moves = [move for scene in level for move in events_at(system, name, scene)]
        if None in [later for _, later in moves]:
            return scenes, events
        level = sorted(set(later for _, later in moves) - scenes)
        scenes.update(level)
    return scenes, None


def is_fault_run(system, name, run):
    """Whether the last event of a run, and none but this, is not let."""
    scenes = [first_scene(system, name)]
    for at, event in enumerate(run):
        laters = [later for scene in scenes for known, later in events_at(system, name, scene) if known == event]
        if not laters or None in laters:
            return None in laters and at == len(run) - 1
        scenes = laters
    return False


def asks_at(part):
    """The port and the door of each line of an ask."""
    lines = [line.split() for line in part.text.split("\n")]
    return {at: (line[1], line[2]) for at, line in enumerate(lines) if line[0] == "ask" and len(line) == 4}


def is_scene(system, name, scene):
    """Whether a tuple of five tuples of the right kinds is a scene by its form."""
    (cells, wait), opens, asked, coming, states = scene
    part = system.part(name)
    to_it = [wire for wire in wires_of(system, name) if system.offerer(wire) == name]
    for wire, door, worth in opens:
        if wire not in to_it or door not in part.doors or worth not in range(part.worths):
            return False
    asked_right = False
    if wait and asked:
        port, door = asks_at(part)[wait[0]]
        asked_right = asked[0] == (name, port) and asked[1] == door and asked[2] in range(part.worths)
    if opens == () and asked == () and coming == ():
        return wait == ()
    if len(opens) == 1 and wait == ():
        return asked == () and coming == ("call",)
    if len(opens) == 1:
        answer_came = len(coming) == 2 and coming[0] == "answer" and coming[1] in range(-2, part.worths)
        return asked_right and coming == () or asked == () and answer_came
    return len(opens) == 2 and asked_right and coming == ("call",) and opens[0][0] != opens[1][0]
