"""Journals of keepers, read back."""

from truestandins.forms import is_name
from truestandins.keeper import Keeper
from truestandins.lines import Lines
from truestandins.pacttexts import read_pact
from truestandins.parts import Part
from truestandins.systems import System
from truestandins.texts import event_told, wire_told


def read_journal(text):
    """A keeper that did the deeds of a journal."""
    lines = Lines(text)
    lines.need(lines.words(0) == ["system"])
    system = lines.read_below(0, lambda below: System(below))
    lines.need(lines.words(0) == ["deeds"])
    lines.step()
    deeds = []
    while lines.words(1):
        deeds.append(read_deed(lines, system.worths))
    lines.need_end()
    return keeper_behind(system, deeds)


def keeper_behind(system, deeds):
    keeper = Keeper(system)
    for kind, deed in deeds:
        if kind == "edit":
            keeper.edit(parts=deed[0], pacts=deed[1])
        else:
            keeper.see(deed)
    return keeper


def read_deed(lines, worths):
    """("edit", (parts, pacts)), or ("event", event)."""
    words = lines.words(1)
    if words == ["edit"]:
        return "edit", read_edit(lines, worths)
    event = event_told(words)
    lines.need(event is not None)
    lines.step()
    return "event", event


def read_edit(lines, worths):
    lines.step()
    parts = []
    while lines.words(2)[:1] == ["part"]:
        words = lines.words(2)
        lines.need(len(words) == 2 and is_name(words[1]))
        parts.append((words[1], lines.read_below(2, lambda text: Part(worths, text))))
    pacts = []
    while lines.words(2)[:1] == ["pact"]:
        wire = wire_told(lines.words(2)[1:])
        lines.need(wire is not None)
        pacts.append((wire, lines.read_below(2, lambda text: read_pact(worths, text))))
    lines.need(parts != [] or pacts != [])
    return tuple(parts), tuple(pacts)
