"""Parts: cells, ports, and doors with statements."""

from truestandins.errors import BadWorths
from truestandins.forms import is_door, is_name, is_worths
from truestandins.lines import Lines, number
from truestandins.programs import Program

BARRED_CELLS = ("it", "got", "lost", "busy")
MOST_CELLS = 3
MOST_PORTS = 2
MOST_DOORS = 3


class Part:
    """A part, read from its text.

    Beside what the document lists, steps are its program, starts the place
    in it where each door begins, and asks what Program tells of asks.
    """

    def __init__(self, worths, text):
        if not is_worths(worths):
            raise BadWorths(worths)
        lines = Lines(text)
        self.worths = worths
        self.text = text
        self.cells = read_cells(lines, worths)
        self.ports = read_ports(lines)
        program = Program(lines, worths, tuple(name for name, _ in self.cells), self.ports)
        self.starts = read_doors(lines, program)
        lines.need_end()
        self.doors = tuple(self.starts)
        self.steps = tuple(program.steps)
        self.asks = program.asks

    def __eq__(self, other):
        return isinstance(other, Part) and self.worths == other.worths and self.text == other.text


def read_cells(lines, worths):
    cells = {}
    while lines.begins("cell"):
        words = lines.words(0)
        lines.need(len(words) == 3 and len(cells) < MOST_CELLS)
        lines.need(is_name(words[1]) and words[1] not in BARRED_CELLS and words[1] not in cells)
        cells[words[1]] = number(words[2], worths)
        lines.need(cells[words[1]] >= 0)
        lines.step()
    return tuple(cells.items())


def read_ports(lines):
    ports = []
    while lines.begins("port"):
        words = lines.words(0)
        lines.need(len(words) == 2 and len(ports) < MOST_PORTS)
        lines.need(is_name(words[1]) and words[1] not in ports)
        ports.append(words[1])
        lines.step()
    return tuple(ports)


def read_doors(lines, program):
    """The place in the program at which each door begins, of one door at least."""
    starts = {}
    while lines.begins("door") or not starts:
        words = lines.words(0)
        lines.need(words[:1] == ["door"] and len(words) == 2 and len(starts) < MOST_DOORS)
        lines.need(is_door(words[1]) and words[1] not in starts)
        lines.step()
        starts[words[1]] = program.read_door()
    return starts
