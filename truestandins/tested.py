"""Tests with stand-ins: what they tell beside these, beside pacts, and beside the real parts."""

from truestandins.errors import BadBeside, BadTest
from truestandins.forms import ascends, is_door, is_name, is_tuple
from truestandins.lines import Lines, number
from truestandins.pacts import MOST_WORTHS, state_behind
from truestandins.rings import ring_among
from truestandins.scenes import NOT_LET
from truestandins.searching import is_closed, is_run_to_fault, members_along, run_to, search
from truestandins.standins import read_stand_in
from truestandins.testbeds import PactIn, RealBed, StubBed

MOST_PORTS = 2
MOST_CALLS = 8
LOST = -1


class Test:
    """A test, read from its text.

    Beside what the document lists, name is its part, stubs are its stand-ins
    by ports, and rounds its calls: (door, worth, what is awaited).
    """

    def __init__(self, text):
        lines = Lines(text)
        self.text = text
        self.name = read_name(lines)
        self.stubs = read_stubs(lines)
        self.rounds = read_rounds(lines)
        lines.need_end()

    def __eq__(self, other):
        return isinstance(other, Test) and self.text == other.text


def read_name(lines):
    words = lines.words(0)
    lines.need(len(words) == 2 and words[0] == "part" and is_name(words[1]))
    lines.step()
    return words[1]


def read_stubs(lines):
    stubs = {}
    while lines.begins("stand"):
        words = lines.words(0)
        lines.need(len(words) == 3 and words[1] == "in" and len(stubs) < MOST_PORTS)
        lines.need(is_name(words[2]) and words[2] not in stubs)
        stubs[words[2]] = lines.read_below(0, lambda text: read_stand_in(MOST_WORTHS, text, None))
    return stubs


def read_rounds(lines):
    rounds = []
    while lines.begins("call") or not rounds:
        words = lines.words(0)
        lines.need(words[:1] == ["call"] and len(words) in (3, 5) and len(rounds) < MOST_CALLS)
        worth = number(words[2], MOST_WORTHS)
        lines.need(is_door(words[1]) and worth >= 0)
        awaited = None
        if len(words) == 5:
            lines.need(words[3] == "->")
            awaited = read_awaited(lines, words[4])
        rounds.append((words[1], worth, awaited))
        lines.step()
    return tuple(rounds)


def read_awaited(lines, word):
    """A worth, any, or -1 for lost."""
    if word == "any":
        return word
    if word == "lost":
        return LOST
    worth = number(word, MOST_WORTHS)
    lines.need(worth >= 0)
    return worth


def fits(system, test):
    """Whether the system has what the test asks for."""
    if test.name not in system.parts:
        return False
    part = system.part(test.name)
    if sorted(test.stubs) != sorted(part.ports):
        return False
    for port in test.stubs:
        if not test.stubs[port].fits(system.worths, system.part(system.offerer((test.name, port))).doors):
            return False
    for door, worth, awaited in test.rounds:
        awaits = awaited not in (None, "any") and awaited >= system.worths
        if door not in part.doors or worth >= system.worths or awaits:
            return False
    return True


def bed_of(system, test, beside):
    """What the test runs on."""
    if not fits(system, test):
        raise BadTest(test)
    ports = system.part(test.name).ports
    if beside == "standins":
        return StubBed(system, test, tuple(test.stubs[port] for port in ports))
    if beside == "pacts":
        return StubBed(system, test, tuple(PactIn(system.pact((test.name, port))) for port in ports))
    if beside == "real":
        return RealBed(system, test)
    raise BadBeside(beside)


def tested(system, test, beside):
    """("fails", run, word), ("endless", run, ring), or ("passes", all members)."""
    bed = bed_of(system, test, beside)
    run, ways = search([bed.first()], lambda member: bed.moves(member))
    if run:
        return "fails", run, what_went_wrong(bed, run)
    found = ring_among(ways, lambda member: bed.moves(member), lambda _: True)
    if found is not None:
        return "endless", run_to(ways, found[0]), found[1]
    return "passes", tuple(sorted(ways))


def what_went_wrong(bed, run):
    """The word for what goes wrong by the last event of a run."""
    _, kind, *about = run[-1]
    if kind == "call":
        return "surprise"
    many = len([event for event in run[:-1] if event[:2] == (bed.outer, "answer")])
    return "missing" if bed.is_awaited(many, about[0]) else "answer"


def shows_tested(system, test, beside, value):
    """Whether any value is a result that tested may tell, right by itself."""
    bed = bed_of(system, test, beside)
    if is_tuple(value, 2):
        return value[0] == "passes" and is_table(bed, value[1])
    if not is_tuple(value, 3):
        return False
    if value[0] == "fails":
        if not is_run_to_fault(bed.first(), lambda member: bed.moves(member), value[1]):
            return False
        return value[2] == what_went_wrong(bed, value[1])
    return value[0] == "endless" and goes_round(bed, value[1], value[2])


def is_table(bed, value):
    """Whether any value is a closed ascending tuple of members through which no ring leads."""
    if not isinstance(value, tuple) or not all([bed.is_member(member) for member in value]) or not ascends(value):
        return False
    if not is_closed([bed.first()], lambda member: bed.moves(member), value):
        return False
    return ring_among(value, lambda member: bed.moves(member), lambda _: True) is None


def goes_round(bed, run, ring):
    """Whether nothing can go wrong, and any value, a ring, can go round for ever behind another one, a run."""
    if not isinstance(run, tuple) or not isinstance(ring, tuple) or ring == ():
        return False
    moves = lambda member: bed.moves(member)
    if search([bed.first()], moves, None)[0] != ():
        return False
    # Going round once is one event here. Behind it may be another member than before.
    laps = lambda member: [(ring, later) for later in members_along(member, moves, ring)]
    members = search(members_along(bed.first(), moves, run), laps, None)[1]
    return ring_among(members, laps, lambda _: True) is not None


def untrue(system, test):
    """(port, word) of the shortest word in the test that the pact does not let, None if there is none."""
    bed = bed_of(system, test, "standins")
    words = [(port, first_untrue(bed, port, system.pact((test.name, port)))) for port in bed.subject.ports]
    found = [(len(word), port, word) for port, word in words if word is not None]
    return min(found)[1:] if found else None


def first_untrue(bed, port, pact):
    """The first word by size that comes at a port and that the pact does not let, None if there is none."""
    # Places are (member, state of the pact), with the least words by which they come.
    level = {(bed.first(), 0): ()}
    met = {}
    while level:
        laters = {}
        for start in sorted(level, key=lambda place: level[place]):
            for letter, later in letters_from(bed, port, pact, start, met):
                word = level[start] + (letter,)
                if later not in laters or word < laters[later]:
                    laters[later] = word
        words = [laters[place] for place in laters if place[1] is None]
        if words:
            return min(words)
        level = laters
    return None


def letters_from(bed, port, pact, start, met):
    """All (letter of a word at the port, place behind it) that come next from a place on.

    Places that were met already are passed over; the state is None behind what the pact does not let.
    """
    found = []
    left = [start]
    while left:
        place = left.pop()
        if place in met:
            continue
        met[place] = True
        member, state = place
        for event, later in [move for move in bed.moves(member) if move[1] != NOT_LET]:
            if event[:2] == (bed.port_wire(port), "answer"):
                _, door, worth = member[2]
                behind = state_behind(pact[state], door, worth, event[2])
                found.append(((door, worth, event[2]), (later, behind)))
            else:
                left.append((later, state))
    return found
