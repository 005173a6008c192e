"""Systems: parts, the wires between them, and the pacts of the wires."""

from truestandins.errors import BadPact, BadPart, NoPart, NoWire
from truestandins.forms import is_name
from truestandins.lines import Lines
from truestandins.pacts import is_pact
from truestandins.pacttexts import pact_of_doors, show_pact
from truestandins.parts import Part

MOST_PARTS = 4
MOST_WIRES = 6
MOST_OUTER = 2


class System:
    """A system, read from its text.

    Beside what the document lists, members are its parts by their names, and
    links (offerer, pact) by wires, as these stood in the text.
    """

    def __init__(self, text):
        lines = Lines(text)
        self.text = text
        self.worths = read_worths(lines)
        self.members = read_members(lines, self.worths)
        self.links = read_links(lines, self.worths, self.members)
        lines.need_end()
        self.parts = tuple(self.members)
        self.wires = tuple(sorted(self.links))

    def __eq__(self, other):
        return (
            isinstance(other, System) and self.worths == other.worths and self.parts == other.parts
            and self.members == other.members and self.links == other.links
        )

    def part(self, name):
        if name not in self.parts:
            raise NoPart(name)
        return self.members[name]

    def offerer(self, wire):
        """The part that is called over the wire."""
        if wire not in self.wires:
            raise NoWire(wire)
        return self.links[wire][0]

    def pact(self, wire):
        if wire not in self.wires:
            raise NoWire(wire)
        return self.links[wire][1]

    def with_part(self, name, part):
        """The system with another part in the place of one."""
        if name not in self.parts:
            raise NoPart(name)
        if not self.takes_part(name, part):
            raise BadPart(part)
        members = {other: self.members[other] for other in self.parts}
        members[name] = part
        return System(system_text(self.worths, members, self.links))

    def with_pact(self, wire, pact):
        """The system with another pact of one wire."""
        if wire not in self.wires:
            raise NoWire(wire)
        if not self.takes_pact(wire, pact):
            raise BadPact(pact)
        links = {other: self.links[other] for other in self.links}
        links[wire] = (self.links[wire][0], pact)
        return System(system_text(self.worths, self.members, links))

    def with_all(self, parts, pacts):
        """The system with all these parts, by names, and pacts, by wires, put in at once; None unless they fit."""
        members = {name: parts.get(name, self.members[name]) for name in self.parts}
        links = {wire: (self.links[wire][0], pacts.get(wire, self.links[wire][1])) for wire in self.links}
        if not all([self.is_edition(name, part) for name, part in parts.items()]):
            return None
        if not all([is_pact(self.worths, pact) for pact in pacts.values()]) or not have_doors(members, links):
            return None
        return System(system_text(self.worths, members, links))

    def takes_part(self, name, part):
        """Whether any value fits in the place of a part."""
        members = {other: part if other == name else self.members[other] for other in self.parts}
        return self.is_edition(name, part) and have_doors(members, self.links)

    def is_edition(self, name, part):
        """Whether any value is a Part with the worths and the ports of a part."""
        return isinstance(part, Part) and part.worths == self.worths and part.ports == self.members[name].ports

    def takes_pact(self, wire, pact):
        """Whether any value fits in the place of the pact of a wire."""
        doors = self.members[self.links[wire][0]].doors
        return is_pact(self.worths, pact) and all([row[0] in doors for state in pact for row in state])


def have_doors(members, links):
    """Whether each offerer has all doors that are asked over its wires, or stand in their pacts."""
    for wire in links:
        offerer, pact = links[wire]
        doors = members[offerer].doors
        if wire[0] and not has_doors_asked(members[offerer], members[wire[0]], wire[1]):
            return False
        if not all([row[0] in doors for state in pact for row in state]):
            return False
    return True


def doors_asked(part, port):
    return [door for _, other, door in part.asks.values() if other == port]


def has_doors_asked(offerer, user, port):
    """Whether the offerer has all doors that the user asks over the port."""
    return all([door in offerer.doors for door in doors_asked(user, port)])


def read_worths(lines):
    words = lines.words(0)
    lines.need(len(words) == 2 and words[0] == "worths" and words[1] in ("2", "3", "4"))
    lines.step()
    return int(words[1])


def read_members(lines, worths):
    members = {}
    while lines.begins("part") or not members:
        words = lines.words(0)
        lines.need(words[:1] == ["part"] and len(words) == 2 and len(members) < MOST_PARTS)
        lines.need(is_name(words[1]) and words[1] not in members)
        members[words[1]] = lines.read_below(0, lambda text: Part(worths, text))
    return members


def read_links(lines, worths, members):
    links = {}
    while lines.begins("wire"):
        words = lines.words(0)
        lines.need(len(words) == 4 and len(links) < MOST_WIRES)
        user, port, offerer = words[1:]
        lines.need(user in members and offerer in members and user != offerer)
        lines.need(port in members[user].ports and (user, port) not in links)
        lines.need(has_doors_asked(members[offerer], members[user], port))
        links[user, port] = (offerer, read_pact_below(lines, worths, members[offerer].doors))
    lines.need(all([(user, port) in links for user in members for port in members[user].ports]))
    many = 0
    while lines.begins("outer") or many == 0:
        words = lines.words(0)
        lines.need(words[:1] == ["outer"] and len(words) == 2 and many < MOST_OUTER and len(links) < MOST_WIRES)
        lines.need(words[1] in members and ("", words[1]) not in links)
        links["", words[1]] = (words[1], read_pact_below(lines, worths, members[words[1]].doors))
        many += 1
    return links


def read_pact_below(lines, worths, doors):
    return lines.read_below(0, lambda text: pact_of_doors(worths, text, doors))


def system_text(worths, members, links):
    rows = [f"worths {worths}"]
    for name in members:
        rows += [f"part {name}", indented(members[name].text)]
    for wire in links:
        user, port = wire
        offerer, pact = links[wire]
        rows += [f"wire {user} {port} {offerer}" if user else f"outer {offerer}", indented(show_pact(pact))]
    return "\n".join(rows)


def indented(text):
    return "\n".join(["  " + row for row in text.split("\n")])
