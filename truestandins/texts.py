"""Texts of events and of runs."""

from truestandins.errors import BadRun
from truestandins.forms import is_answer, is_below, is_door, is_name, is_tuple
from truestandins.lines import Lines, number
from truestandins.pacts import MOST_WORTHS
from truestandins.pacttexts import answer_of, shown_answer

OUTSIDE = "-"


def show_run(run):
    if not isinstance(run, tuple) or not all([is_event(event) for event in run]):
        raise BadRun(run)
    return "\n".join([event_text(event) for event in run])


def read_run(text):
    lines = Lines(text)
    events = []
    while text and lines.at < len(lines.rows):
        event = event_told(lines.words(0))
        lines.need(event is not None)
        events.append(event)
        lines.step()
    return tuple(events)


def is_event(value):
    """Whether any value is an event by its form."""
    if is_tuple(value, 4):
        return is_wire(value[0]) and value[1] == "call" and is_door(value[2]) and is_below(value[3], MOST_WORTHS)
    return is_tuple(value, 3) and is_wire(value[0]) and value[1] == "answer" and is_answer(value[2], MOST_WORTHS)


def is_wire(value):
    """Whether any value is (user, port), or ("", offerer), by its form."""
    return is_tuple(value, 2) and (value[0] == "" or is_name(value[0])) and is_name(value[1])


def event_text(event):
    wire, kind, *about = event
    if kind == "call":
        return f"call {wire_text(wire)} {about[0]} {about[1]}"
    return f"answer {wire_text(wire)} {shown_answer(about[0])}"


def wire_text(wire):
    return f"{wire[0] or OUTSIDE} {wire[1]}"


def event_told(words):
    """The event that the words of a line write, None if they write none."""
    wire = wire_told(words[1:3])
    if wire is None:
        return None
    if words[0] == "call" and len(words) == 5:
        worth = number(words[4], MOST_WORTHS)
        return (wire, "call", words[3], worth) if is_door(words[3]) and worth >= 0 else None
    if words[0] == "answer" and len(words) == 4:
        answer = answer_of(words[3], MOST_WORTHS)
        return None if answer is None else (wire, "answer", answer)
    return None


def wire_told(words):
    """The wire that two words write, None if they write none."""
    if len(words) != 2 or not is_name(words[1]):
        return None
    if words[0] == OUTSIDE:
        return "", words[1]
    return (words[0], words[1]) if is_name(words[0]) else None
