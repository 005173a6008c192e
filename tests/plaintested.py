"""Section 14's tests once more: all that can come in a test, told from its text."""

from tests.plainparts import plain_answered, plain_called
from tests.plainstandins import PlainStandIn, answer_told
from truestandins.tested import Test


def read_parts(text):
    """(name, {port: text of its stand-in}, calls: (door, worth, word that is awaited or None)) of a right text."""
    rows, stubs, calls, port = text.split("\n"), {}, [], None
    for row in rows[1:]:
        if row.startswith("stand in "):
            port = row[len("stand in "):]
            stubs[port] = []
        elif row.startswith("  "):
            stubs[port].append(row[2:])
        else:
            words = row.split()
            calls.append((words[1], int(words[2]), words[4] if len(words) > 3 else None))
    return rows[0].split()[1], {port: "\n".join(below) for port, below in stubs.items()}, calls


def is_awaited(word, answer):
    if word is None or word == "any" and answer >= 0:
        return True
    return word != "any" and answer == answer_told(word)


class Beside:
    """Members are (number, inner, asked, coming, taken or states of pacts), as shown but for what was taken."""

    def __init__(self, system, test, beside):
        self.system, self.beside = system, beside
        self.name, stubs, self.calls = read_parts(test.text)
        self.part = system.part(self.name)
        self.ports = self.part.ports
        self.stubs = [PlainStandIn(stubs[port]) for port in self.ports]
        self.pacts = [system.pact((self.name, port)) for port in self.ports]

    def first(self):
        cells = tuple(worth for _, worth in self.part.cells)
        return 0, (cells, ()), (), (), tuple(() if self.beside == "standins" else 0 for _ in self.ports)

    def replies(self, at, state, door, worth):
        if self.beside == "standins":
            told = self.stubs[at].call(state, door, worth)
            return [(told[0], self.stubs[at].kept_short(told[1]))] if told else []
        return [pair for row in self.pacts[at][state] if row[:2] == (door, worth) for pair in row[2]]

    def is_done(self, states):
        return self.beside != "standins" or all(stub.is_done(taken) for stub, taken in zip(self.stubs, states))

    def moves(self, member):
        """(event, member behind it, or the word for what goes wrong)."""
        number, inner, asked, coming, states = member
        wire, found = ("", self.name), []
        if asked:
            port, door, worth = asked
            at = self.ports.index(port)
            for answer, later in self.replies(at, states[at], door, worth):
                others = tuple(later if place == at else state for place, state in enumerate(states))
                found.append((((self.name, port), "answer", answer), (number, inner, (), ("answer", answer), others)))
            return found
        if not coming:
            if number == len(self.calls):
                return []
            return [((wire, "call") + self.calls[number][:2], (number, inner, (), ("call",), states))]
        if coming == ("call",):
            deeds = plain_called(self.part, inner, *self.calls[number][:2])
        else:
            deeds = plain_answered(self.part, inner, coming[1])
        for deed, later in deeds:
            if deed[0] == "asks":
                at = self.ports.index(deed[1])
                fits = self.replies(at, states[at], deed[2], deed[3])
                found.append((((self.name, deed[1]), "call") + deed[2:],
                              (number, later, deed[1:], (), states) if fits else "surprise"))
            elif not is_awaited(self.calls[number][2], deed[1]):
                found.append(((wire, "answer", deed[1]), "answer"))
            elif number + 1 == len(self.calls) and not self.is_done(states):
                found.append(((wire, "answer", deed[1]), "missing"))
            else:
                found.append(((wire, "answer", deed[1]), (number + 1, later, (), (), states)))
        return found

    def shown(self, member):
        """The member as tables show it."""
        if self.beside != "standins":
            return member
        return member[:4] + (tuple(stub.shown(taken) for stub, taken in zip(self.stubs, member[4])),)


class Real:
    """Members are (number, inners, stack, given)."""

    def __init__(self, system, test):
        self.system = system
        self.name, _, self.calls = read_parts(test.text)

    def first(self):
        cells = [tuple(worth for _, worth in self.system.part(name).cells) for name in self.system.parts]
        return 0, tuple((worths, ()) for worths in cells), (), ()

    def shown(self, member):
        return member

    def moves(self, member):
        number, inners, stack, given = member
        wire, found = ("", self.name), []
        if not stack:
            if number == len(self.calls):
                return []
            call = self.calls[number][:2]
            return [((wire, "call") + call, (number, inners, ((wire,) + call,), ()))]
        over, door, worth = stack[-1]
        name = given[0][0] if given else self.name if over == wire else self.system.offerer(over)
        at = self.system.parts.index(name)
        if given:
            deeds = plain_answered(self.system.part(name), inners[at], given[1])
        else:
            deeds = plain_called(self.system.part(name), inners[at], door, worth)
        for deed, later in deeds:
            others = inners[:at] + (later,) + inners[at + 1:]
            if deed[0] == "asks":
                found.append((((name, deed[1]), "call") + deed[2:],
                              (number, others, stack + (((name, deed[1]),) + deed[2:],), ())))
            elif over != wire:
                found.append(((over, "answer", deed[1]), (number, others, stack[:-1], (over, deed[1]))))
            elif is_awaited(self.calls[number][2], deed[1]):
                found.append(((wire, "answer", deed[1]), (number + 1, others, (), ())))
            else:
                found.append(((wire, "answer", deed[1]), "answer"))
        return found


def bed_of(system, test, beside):
    return Real(system, test) if beside == "real" else Beside(system, test, beside)


def all_members(bed, start=()):
    """(all members, {number of events: words for what goes wrong by so many})."""
    level, met, wrong, events = [bed.first()] + list(start), set(), {}, 0
    while level:
        met.update(level)
        events += 1
        laters = [later for member in level for _, later in bed.moves(member)]
        for later in laters:
            if isinstance(later, str):
                wrong.setdefault(events, set()).add(later)
        level = sorted(set(later for later in laters if not isinstance(later, str)) - met)
    return met, wrong


def goes_round(bed, members):
    """Whether some of the members lead round: what leads to nothing that is left is taken away, again and again."""
    left = set(members)
    while True:
        ends = [member for member in left if not any(later in left for _, later in bed.moves(member))]
        if not ends:
            return bool(left)
        left.difference_update(ends)


def plain_tested(system, test, beside):
    """("fails", events, words), ("endless",), or ("passes", table)."""
    bed = bed_of(system, test, beside)
    members, wrong = all_members(bed)
    if wrong:
        return "fails", min(wrong), wrong[min(wrong)]
    if goes_round(bed, members):
        return ("endless",)
    return "passes", tuple(sorted(set(bed.shown(member) for member in members)))


def words_behind(bed, run):
    """What is behind a run: members, and words for what goes wrong by its last event; [] if it cannot come."""
    members = [bed.first()]
    for at, event in enumerate(run):
        laters = [later for member in members for known, later in bed.moves(member) if known == event]
        if any(isinstance(later, str) for later in laters) and at < len(run) - 1:
            return []
        members = laters
    return members


def random_test(draw, system):
    """A test that fits a system, drawn."""
    from tests.plainstandins import random_stand_in
    name = draw.choice(system.parts)
    part = system.part(name)
    rows = ["part " + name]
    for port in draw.sample(part.ports, len(part.ports)):
        doors = system.part(system.offerer((name, port))).doors
        rows += ["stand in " + port]
        if draw.random() < 0.6:
            answers = ["0", "1", "lost", "busy"]
            rows += [f"  {door} any often -> {draw.choice(answers)}, {draw.choice(answers)}" for door in doors[:draw.randint(1, 2)]]
            rows += [f"  else {draw.choice(answers)}"] * draw.randint(0, 1)
        else:
            rows += ["  " + row for row in random_stand_in(draw, doors, system.worths).split("\n")]
    awaited = ["", "", "", "", " -> any", " -> lost"] + [f" -> {worth}" for worth in range(system.worths)]
    for _ in range(draw.randint(1, 3)):
        rows.append(f"call {draw.choice(part.doors)} {draw.randrange(system.worths)}{draw.choice(awaited)}")
    return Test("\n".join(rows))
