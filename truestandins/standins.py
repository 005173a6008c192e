"""Stand-ins that are written by hand, and the pacts that they keep."""

from truestandins.errors import BadDoors, BadWorths
from truestandins.forms import ascends, is_below, is_door, is_tuple, is_worths
from truestandins.inners import put
from truestandins.lines import Lines, number
from truestandins.pacts import least_of
from truestandins.pacttexts import answer_of

MOST_ROWS = 4
MOST_ANSWERS = 3
TIMES = ("often", "once", "twice")
ANY = -1


class StandIn:
    """What stands in for the part at the other end of a wire.

    Rows are (door, worth or ANY, number of TIMES, answers); other is the answer
    of else, None without it. A state is (place, uses of each row).
    """

    def __init__(self, in_order, rows, other):
        self.in_order = in_order
        self.rows = rows
        self.other = other

    def first(self):
        return 0, (0,) * len(self.rows)

    def given_behind(self, state, door, worth):
        """[(answer to a call, state behind it)], [] if the call is a surprise."""
        at = self.taken_by(state, door, worth)
        if at is None:
            return [] if self.other is None else [(self.other, state)]
        used = state[1][at]
        answers = self.rows[at][3]
        later = put(state[1], at, min(used + 1, self.most_told(at)))
        return [(answers[min(used, len(answers) - 1)], (at if self.in_order else 0, later))]

    def taken_by(self, state, door, worth):
        """The number of the row that takes a call, None if none does."""
        place, uses = state
        for at in range(place, len(self.rows)):
            asked, known, needed, _ = self.rows[at]
            fits = asked == door and known in (ANY, worth)
            if fits and (needed == 0 or uses[at] < needed):
                return at
            if self.in_order and uses[at] < needed:
                return None
        return None

    def most_told(self, at):
        """How far the uses of a row are counted."""
        _, _, needed, answers = self.rows[at]
        return max(needed, len(answers))

    def is_done(self, state):
        """Whether each row was used as often as it has to be."""
        return all([used >= row[2] for used, row in zip(state[1], self.rows)])

    def has_state(self, value):
        """Whether any value is a state by its form."""
        if not is_tuple(value, 2) or not is_below(value[0], len(self.rows) if self.in_order else 1):
            return False
        if not is_tuple(value[1], len(self.rows)):
            return False
        return all([is_below(used, self.most_told(at) + 1) for at, used in enumerate(value[1])])

    def fits(self, worths, doors):
        """Whether it asks for no more than these doors and so many worths, and answers no other."""
        told = [worth for _, known, _, answers in self.rows for worth in (known, *answers)]
        told.append(ANY if self.other is None else self.other)
        return max(told) < worths and all([row[0] in doors for row in self.rows])


def pact_of(worths, doors, text):
    """The least pact that lets what a stand-in takes, with its answers."""
    if not is_worths(worths):
        raise BadWorths(worths)
    if not isinstance(doors, tuple) or not all([is_door(door) for door in doors]) or not ascends(doors):
        raise BadDoors(doors)
    return least_of(states_of(read_stand_in(worths, text, doors), worths, doors))


def states_of(stand_in, worths, doors):
    """The states of the pact that lets what a stand-in takes."""
    numbers = {stand_in.first(): 0}
    queue = list(numbers)
    states = []
    while len(states) < len(queue):
        state = queue[len(states)]
        rows = []
        for door, worth in [(door, worth) for door in doors for worth in range(worths)]:
            given = stand_in.given_behind(state, door, worth)
            for _, later in given:
                if later not in numbers:
                    numbers[later] = len(queue)
                    queue.append(later)
            if given:
                rows.append((door, worth, tuple((answer, numbers[later]) for answer, later in given)))
        states.append(tuple(rows))
    return tuple(states)


def read_stand_in(worths, text, doors):
    """The stand-in of a text, all doors of which are among these; with None of any doors."""
    lines = Lines(text)
    in_order = lines.words(0) == ["in", "order"]
    if in_order:
        lines.step()
    rows = []
    words = lines.words(0)
    while not rows or words and not is_else(words):
        lines.need(len(rows) < MOST_ROWS)
        rows.append(read_row(lines, words, worths, doors))
        lines.step()
        words = lines.words(0)
    other = None
    if words:
        other = answer_of(words[1], worths)
        lines.need(other is not None)
        lines.step()
    lines.need_end()
    return StandIn(in_order, tuple(rows), other)


def is_else(words):
    """Whether it is a line of else: a row for a door of this name has more words."""
    return words[0] == "else" and len(words) == 2


def read_row(lines, words, worths, doors):
    lines.need(len(words) > 4 and words[3] == "->" and words[2] in TIMES)
    lines.need(is_door(words[0]) and (doors is None or words[0] in doors))
    worth = ANY if words[1] == "any" else number(words[1], worths)
    lines.need(words[1] == "any" or worth >= 0)
    answers = [answer_of(word, worths) for word in " ".join(words[4:]).split(", ")]
    lines.need(len(answers) <= MOST_ANSWERS and None not in answers)
    return words[0], worth, TIMES.index(words[2]), tuple(answers)
