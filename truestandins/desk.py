"""A desk: a keeper that is asked line by line."""

from truestandins.counting import asks, bound, most
from truestandins.errors import BadLine
from truestandins.forms import is_name
from truestandins.journals import read_journal
from truestandins.keeping import keeps
from truestandins.lived import WORDS, lived
from truestandins.pacttexts import show_pact, shown_answer
from truestandins.texts import event_text, event_told, wire_text, wire_told
from truestandins.weakest import loose, stand_in, weakest
from truestandins.wholes import judged


def say_undo(keeper):
    keeper.undo()
    return "ok"


def say_redo(keeper):
    keeper.redo()
    return "ok"


def say_events(keeper):
    return joined([event_text(event) for event in keeper.events()])


def say_rest(keeper):
    return "yes" if keeper.at_rest else "no"


def say_judged(keeper):
    return joined([f"{name or 'whole'} {word}" for name, word in judged(keeper.system)])


def say_spare(keeper):
    told = [word for _, word, _ in lived(keeper.system)[1]]
    return " ".join([str(told.count(word)) for word in WORDS])


def say_loose(keeper):
    return joined([wire_text(wire) for wire, word in loose(keeper.system) if word is not None])


def say_asks(keeper):
    return number_told(asks(keeper.system))


def say_bound(keeper):
    return " ".join(["none" if many is None else str(many) for _, many in bound(keeper.system)])


def say_keeps(keeper, name):
    word, proof = keeps(keeper.system, name)
    return word if word == "keeps" else f"{word} {len(proof)}"


def say_most(keeper, name):
    return number_told(most(keeper.system, name))


def say_weakest(keeper, wire):
    found = weakest(keeper.system, wire)
    return str(len(found[1])) if found[0] == "pact" else found[0]


def say_stand_in(keeper, wire):
    pact = stand_in(keeper.system, wire)
    if pact is None:
        return "none"
    return "; ".join([row.lstrip(" ") for row in show_pact(pact).split("\n")])


def say_foretold(keeper, event):
    answers, can_break, can_last = keeper.foretold(event[0], event[2], event[3])
    shown = " ".join([shown_answer(answer) for answer in answers])
    return (shown or "-") + (" breaks" if can_break else "") + (" lasts" if can_last else "")


def joined(rows):
    return "; ".join(rows) or "-"


def number_told(found):
    return str(found[1]) if found[0] == "most" else found[0]


PLAIN = {
    "undo": say_undo, "redo": say_redo, "events": say_events, "rest": say_rest, "judged": say_judged,
    "spare": say_spare, "loose": say_loose, "asks": say_asks, "bound": say_bound,
}
OF_PARTS = {"keeps": say_keeps, "most": say_most}
OF_WIRES = {"weakest": say_weakest, "standin": say_stand_in}


class Desk:
    """A keeper, by its journal, that is asked by lines."""

    def __init__(self, text):
        self.keeper = read_journal(text)

    def say(self, line):
        """What a line is answered with."""
        words = line.split(" ") if isinstance(line, str) else [""]
        verb, *about = words
        event = event_told(words)
        if event is not None:
            return "let" if self.keeper.see(event) else "not let"
        if verb in PLAIN and about == []:
            plain = PLAIN[verb]
            return plain(self.keeper)
        if verb in OF_PARTS and len(about) == 1 and is_name(about[0]):
            of_part = OF_PARTS[verb]
            return of_part(self.keeper, about[0])
        wire = wire_told(about)
        if verb in OF_WIRES and wire is not None:
            of_wire = OF_WIRES[verb]
            return of_wire(self.keeper, wire)
        event = event_told(["call", "-"] + about)
        if verb == "foretold" and event is not None:
            return say_foretold(self.keeper, event)
        raise BadLine(line)
