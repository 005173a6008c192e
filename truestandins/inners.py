"""Inners of a part: what it does when it is called, and when it is answered."""

from truestandins.errors import BadAnswer, BadCall, BadInner
from truestandins.forms import is_answer, is_below, is_integer, is_tuple

LOST = -1
BUSY = -2


def first_inner(part):
    return tuple(worth for _, worth in part.cells), ()


def called(part, inner, door, worth):
    """All (deed, inner) that can come when the part is called."""
    if not is_inner(part, inner):
        raise BadInner(inner)
    if not (door in part.doors and is_below(worth, part.worths)):
        raise BadCall((door, worth))
    cells, wait = inner
    if wait:
        return ((("gives", BUSY), inner),)
    # Ahead of any ask got, lost and busy are as behind an answer 0.
    return deeds_from(part, part.starts[door], cells, worth, 0)


def answered(part, inner, answer):
    """All (deed, inner) that can come when what the part asked is answered."""
    if not is_inner(part, inner) or inner[1] == ():
        raise BadInner(inner)
    if not is_answer(answer, part.worths):
        raise BadAnswer(answer)
    cells, (line, it) = inner
    return deeds_from(part, part.asks[line][0], cells, it, answer)


def is_inner(part, value):
    """Whether it is an inner of this part by its form."""
    if not is_tuple(value, 2):
        return False
    cells, wait = value
    if not is_tuple(cells, len(part.cells)) or not all([is_below(worth, part.worths) for worth in cells]):
        return False
    return wait == () or is_wait(part, wait)


def is_wait(part, value):
    """Whether it is (line of an ask, worth)."""
    if not is_tuple(value, 2):
        return False
    line, it = value
    return is_integer(line) and line in part.asks and is_below(it, part.worths)


def deeds_from(part, start, cells, it, heard):
    """All (deed, inner) that can come from a place of the program on; heard is the last answer.

    Each while begins with an ask, so each way ends; ways that draws have
    parted, and that meet again, are followed once.
    """
    found = {}
    met = {}
    places = [(start, cells)]
    while places:
        place = places.pop()
        if place in met:
            continue
        met[place] = True
        at, cells = place
        step = part.steps[at]
        if step[0] in ("ask", "answer", "fail"):
            found[deed_of(step, cells, it, heard)] = True
        else:
            places.extend(places_behind(part, at, cells, it, heard))
    return tuple(sorted(found))


def deed_of(step, cells, it, heard):
    """The (deed, inner) of a step that ends a way."""
    if step[0] == "ask":
        _, port, door, source, line = step
        return ("asks", port, door, worth_of(source, cells, it, heard)), (cells, (line, it))
    if step[0] == "answer":
        return ("gives", worth_of(step[1], cells, it, heard)), (cells, ())
    return ("gives", LOST), (cells, ())


def places_behind(part, at, cells, it, heard):
    """The (place, cells) that can come behind a step that does not end a way."""
    step = part.steps[at]
    if step[0] == "jump":
        return [(step[1], cells)]
    if step[0] == "unless":
        return [(at + 1 if holds(step[1], cells, it, heard) else step[2], cells)]
    cell = step[1]
    if step[0] == "draw":
        return [(at + 1, put(cells, cell, worth)) for worth in range(part.worths)]
    worth = worth_of(step[2], cells, it, heard)
    if step[0] == "add":
        worth = (cells[cell] + worth) % part.worths
    return [(at + 1, put(cells, cell, worth))]


def worth_of(source, cells, it, heard):
    word, at = source
    if word == "cell":
        return cells[at]
    if word == "it":
        return it
    return max(heard, 0) if word == "got" else at


def holds(test, cells, it, heard):
    if test[0] == "lost":
        return heard == LOST
    if test[0] == "busy":
        return heard == BUSY
    alike = worth_of(test[1], cells, it, heard) == worth_of(test[2], cells, it, heard)
    return alike == (test[0] == "=")


def put(row, at, worth):
    """The tuple with another member at one place."""
    return row[:at] + (worth,) + row[at + 1:]
