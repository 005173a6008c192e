"""A keeper follows a running system from outside: it sees events, not what is drawn."""

from truestandins.edits import all_keep, edit_text, edited_moments, edited_system
from truestandins.errors import (
    Amid, BadCall, BadEdit, Ended, NoEvent, NothingToRedo, NothingToUndo, NoWire, TooMany,
)
from truestandins.forms import is_like
from truestandins.moments import Stage
from truestandins.rings import ring_among
from truestandins.scenes import NOT_LET
from truestandins.searching import MOST_MEMBERS, search
from truestandins.systems import indented, system_text
from truestandins.texts import event_text


class Point:
    """Where a keeper stands behind a deed.

    seen has the event, if the deed is one; edited are the wires whose pacts were
    put in by it; text is what it adds to the journal.
    """

    def __init__(self, stage, system, moments, text):
        self.stage = stage
        self.system = system
        self.moments = moments
        self.text = text
        self.seen = ()
        self.edited = ()


class Trial:
    """A block behind which the keeper is as it was ahead of it, unless that is to be kept."""

    def __init__(self, keeper):
        self.keeper = keeper
        self.kept = None

    def __enter__(self):
        self.kept = None
        self.points = self.keeper.points
        self.undone = self.keeper.undone
        self.system = self.keeper.system
        self.moments = self.keeper.moments
        self.story = self.keeper.story
        self.at_rest = self.keeper.at_rest
        self.journal = self.keeper.journal
        return self

    def keep(self):
        self.kept = True

    def __exit__(self, kind, value, trace):
        if self.kept is None or kind is not None:
            self.keeper.points = self.points
            self.keeper.undone = self.undone
            self.keeper.system = self.system
            self.keeper.moments = self.moments
            self.keeper.story = self.story
            self.keeper.at_rest = self.at_rest
            self.keeper.journal = self.journal


class Keeper:
    """Follows a system.

    Beside what the document lists, points are where it stood behind each deed
    that stands, the first one ahead of all, and undone those that were taken back.
    """

    def __init__(self, system):
        stage = Stage(system)
        text = system_text(system.worths, system.members, system.links)
        start = Point(stage, system, (stage.first(),), f"system\n{indented(text)}\ndeeds")
        self.points = (start,)
        self.undone = ()
        self.system = system
        self.moments = start.moments
        self.story = ()
        self.at_rest = True
        self.journal = start.text

    def __eq__(self, other):
        return isinstance(other, Keeper) and self.journal == other.journal

    def events(self):
        """All events that can come at one of the moments."""
        stage = self.points[-1].stage
        return tuple(sorted({event for moment in self.moments for event, _ in stage.moves(moment)}))

    def see(self, event):
        """Goes on by an event, and tells whether it is let."""
        if self.moments == ():
            raise Ended(event)
        stage = self.points[-1].stage
        laters = {
            later: True for moment in self.moments for known, later in stage.moves(moment) if is_like(event, known)
        }
        if not laters:
            raise NoEvent(event)
        moments = () if NOT_LET in laters else tuple(sorted(laters))
        if len(moments) > MOST_MEMBERS:
            raise TooMany(MOST_MEMBERS)
        later = Point(stage, self.system, moments, "\n  " + event_text(event))
        later.seen = (event,)
        self.undone = ()
        self.go_on(later)
        return moments != ()

    def word(self, wire):
        """The word of a wire since its pact was last edited."""
        if wire not in self.system.wires:
            raise NoWire(wire)
        events = []
        for point in reversed(self.points):
            if wire in point.edited:
                break
            if point.moments != ():
                events.extend([event for event in point.seen if event[0] == wire])
        # Each call over a wire is answered ahead of the next one.
        events = events[::-1]
        return tuple(call[2:] + answer[2:] for call, answer in zip(events[::2], events[1::2]))

    def foretold(self, wire, door, worth):
        """(answers to which a call of the outside can lead, whether it can break, whether it can last)."""
        self.need_rest()
        if wire not in self.system.wires or wire[0] != "":
            raise NoWire(wire)
        stage = self.points[-1].stage
        starts = [
            later for moment in self.moments for event, later in stage.moves(moment)
            if event[0] == wire and is_like((door, worth), event[2:])
        ]
        if not starts:
            raise BadCall((door, worth))
        inside = lambda moment: [step for step in stage.moves(moment) if step[1] != NOT_LET and step[1][1] != ()]
        met = search(starts, inside, None)[1]
        moves = [move for moment in met for move in stage.moves(moment)]
        answers = sorted({event[2] for event, later in moves if later != NOT_LET and later[1] == ()})
        can_break = NOT_LET in [later for _, later in moves]
        return tuple(answers), can_break, ring_among(met, inside, lambda _: True) is not None

    def edit(self, *, parts=(), pacts=()):
        """Puts in parts and pacts, and tells whether all parts keep from here on."""
        self.need_rest()
        system = edited_system(self.system, parts, pacts)
        if system is None:
            raise BadEdit((parts, pacts))
        moments = edited_moments(system, parts, pacts, self.moments)
        later = Point(Stage(system), system, moments, "\n" + indented(edit_text(parts, pacts)))
        later.edited = tuple(wire for wire, _ in pacts)
        self.undone = ()
        self.go_on(later)
        return all_keep(system, moments)

    def undo(self):
        """Takes the last deed back."""
        if len(self.points) == 1:
            raise NothingToUndo(None)
        point = self.points[-1]
        self.undone = (*self.undone, point)
        self.points = self.points[:-1]
        self.story = self.story[:len(self.story) - len(point.seen)]
        self.journal = self.journal[:len(self.journal) - len(point.text)]
        self.stand()

    def redo(self):
        """Does the last deed that was taken back again."""
        if not self.undone:
            raise NothingToRedo(None)
        point = self.undone[-1]
        self.undone = self.undone[:-1]
        self.go_on(point)

    def trial(self):
        return Trial(self)

    def tried(self, look, *, keep=False):
        """What a function tells of the keeper in a trial."""
        with self.trial() as trial:
            found = look(self)
            if keep is True:
                trial.keep()
        return found

    def copy(self):
        other = Keeper(self.system)
        other.points = self.points
        other.undone = self.undone
        other.story = self.story
        other.journal = self.journal
        other.stand()
        return other

    def need_rest(self):
        if self.moments == ():
            raise Ended(None)
        if not self.at_rest:
            raise Amid(None)

    def go_on(self, point):
        self.points = (*self.points, point)
        self.story = self.story + point.seen
        self.journal = self.journal + point.text
        self.stand()

    def stand(self):
        """Tells what stands at the last point."""
        point = self.points[-1]
        self.system = point.system
        self.moments = point.moments
        self.at_rest = point.moments != () and point.moments[0][1] == ()
