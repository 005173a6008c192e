"""Section 16 once more: where a keeper stands, told from all deeds that stand, each time from the beginning."""

from tests import plainly, plainwhole


class PlainKeeper:
    """deeds are ("see", event) and ("edit", parts, pacts), all of them right."""

    def __init__(self, system, deeds=()):
        self.system, self.moments, self.story, self.ended = system, {plainwhole.first_moment(system)}, (), False
        self.words = {wire: () for wire in system.wires}
        self.open_calls = {}
        for deed in deeds:
            if deed[0] == "see":
                self.see(deed[1])
            else:
                self.edit(deed[1], deed[2])

    def moves(self):
        return [move for moment in self.moments for move in plainwhole.events_of(self.system, moment)]

    def events(self):
        return tuple(sorted(set(event for event, _ in self.moves())))

    def see(self, event):
        laters = [later for known, later in self.moves() if known == event]
        assert laters
        self.ended = None in laters
        self.moments = set() if self.ended else set(laters)
        self.story += (event,)
        if self.ended:
            return
        if event[1] == "call":
            self.open_calls[event[0]] = event[2:]
        else:
            self.words[event[0]] += (self.open_calls.pop(event[0]) + event[2:],)

    def edit(self, parts, pacts):
        for name, part in parts:
            self.system = edited(self.system, [(name, part)], [])
        for wire, pact in pacts:
            self.system = edited(self.system, [], [(wire, pact)])
            self.words[wire] = ()
        fresh = {name: (tuple(worth for _, worth in part.cells), ()) for name, part in parts}
        wires = dict(pacts)
        self.moments = {
            (tuple(fresh.get(name, inner) for name, inner in zip(self.system.parts, inners)), stack, given,
             tuple(0 if wire in wires else state for wire, state in zip(self.system.wires, states)))
            for inners, stack, given, states in self.moments
        }

    def at_rest(self):
        return not self.ended and all(stack == () for _, stack, _, _ in self.moments)

    def all_keep(self):
        """What an edit returns, TooMany left aside."""
        for name in self.system.parts:
            columns = [self.system.wires.index(wire) for wire in plainly.wires_of(self.system, name)]
            place = self.system.parts.index(name)
            left = [(inners[place], (), (), (), tuple(states[at] for at in columns)) for inners, _, _, states in self.moments]
            met = set()
            while left:
                scene = left.pop()
                if scene not in met:
                    met.add(scene)
                    laters = [later for _, later in plainly.events_at(self.system, name, scene)]
                    if None in laters:
                        return False
                    left += laters
        return True

    def foretold(self, wire, door, worth):
        left = [later for event, later in self.moves() if event == (wire, "call", door, worth)]
        met, answers, can_break = set(), set(), False
        steps = {}
        while left:
            moment = left.pop()
            if moment in met:
                continue
            met.add(moment)
            steps[moment] = []
            for event, later in plainwhole.events_of(self.system, moment):
                if later is None:
                    can_break = True
                elif later[1] == ():
                    answers.add(event[2])
                else:
                    left.append(later)
                    steps[moment].append(later)
        lasting = set(met)
        while True:
            ends = [moment for moment in lasting if not lasting.intersection(steps[moment])]
            if not ends:
                return tuple(sorted(answers)), can_break, bool(lasting)
            lasting.difference_update(ends)


def edited(system, parts, pacts):
    """The system by its text, with others in the places of some parts and pacts, though they may not fit one another yet."""
    from truestandins.systems import System
    other = System(system.text)
    for name, part in parts:
        other.members[name] = part
    for wire, pact in pacts:
        other.links[wire] = (other.links[wire][0], pact)
    # What was put in ahead of this is kept as it is.
    for name in system.parts:
        if name not in dict(parts):
            other.members[name] = system.members[name]
    for wire in system.wires:
        if wire not in dict(pacts):
            other.links[wire] = system.links[wire]
    return other


def journal_of(system, deeds):
    """The journal by its words."""
    from truestandins.pacttexts import show_pact
    rows = ["system", "  worths " + str(system.worths)]
    for name in system.parts:
        rows += ["  part " + name] + ["    " + row for row in system.part(name).text.split("\n")]
    wires = [row.split() for row in system.text.split("\n") if row.startswith(("wire ", "outer "))]
    for words in wires:
        wire = (words[1], words[2]) if words[0] == "wire" else ("", words[1])
        rows += ["  " + " ".join(words)] + ["    " + row for row in show_pact(system.pact(wire)).split("\n")]
    rows.append("deeds")
    for deed in deeds:
        if deed[0] == "see":
            wire, kind, *about = deed[1]
            words = [kind, wire[0] or "-", wire[1]] + [{-1: "lost", -2: "busy"}.get(word, str(word)) for word in about]
            rows.append("  " + " ".join(words))
            continue
        rows.append("  edit")
        for name, part in deed[1]:
            rows += ["    part " + name] + ["      " + row for row in part.text.split("\n")]
        for wire, pact in deed[2]:
            rows += [f"    pact {wire[0] or '-'} {wire[1]}"] + ["      " + row for row in show_pact(pact).split("\n")]
    return "\n".join(rows)
