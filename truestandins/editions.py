"""Editions: whether another edition of a part does nothing new, and where it may come in."""

from truestandins.errors import BadPart
from truestandins.forms import ascends, is_like, is_tuple
from truestandins.inners import answered, called, first_inner, is_inner
from truestandins.keeping import is_table, scenes_kept
from truestandins.scenes import Bench
from truestandins.searching import MOST_MEMBERS, is_closed, is_run_to_fault, search


def within(elder, newer):
    """("within", all inners of the newer with those of the elder that fit), or ("beyond", a row of fewest events)."""
    need_alike(elder, newer)
    run, ways = search([first_pair(elder, newer)], lambda pair: pair_moves(elder, newer, pair))
    if run:
        return "beyond", tuple([event for step in run for event in step])
    return "within", tuple(sorted(ways))


def shows_within(elder, newer, value):
    """Whether any value is a result that within may tell, right by itself."""
    need_alike(elder, newer)
    first = first_pair(elder, newer)
    if not is_tuple(value, 2) or not isinstance(value[1], tuple):
        return False
    if value[0] == "beyond":
        row = value[1]
        steps = tuple([row[at:at + 2] for at in range(0, len(row), 2)])
        return is_run_to_fault(first, lambda pair: pair_moves(elder, newer, pair), steps)
    if value[0] != "within" or not all([is_pair(elder, newer, pair) for pair in value[1]]):
        return False
    return ascends(value[1]) and is_closed([first], lambda pair: pair_moves(elder, newer, pair), value[1])


def need_alike(elder, newer):
    alike = elder.worths == newer.worths and elder.ports == newer.ports
    if not alike or sorted(elder.doors) != sorted(newer.doors):
        raise BadPart(newer)


def first_pair(elder, newer):
    return first_inner(newer), (first_inner(elder),)


def pair_moves(elder, newer, pair):
    """All ((what comes, deed of the newer), pair behind it); () is behind a deed that the elder cannot do."""
    inner, fitting = pair
    found = []
    for comes in all_that_comes(newer, inner):
        laters = {}
        for other in fitting:
            for deed, later in deeds_behind(elder, other, comes):
                alike = laters.setdefault(deed, {})
                alike[later] = True
        for deed, later in deeds_behind(newer, inner, comes):
            behind = (later, tuple(sorted(laters[deed]))) if deed in laters else ()
            found.append(((comes, deed), behind))
    return found


def all_that_comes(part, inner):
    """All answers to a part that waits, all calls to one that does not."""
    if inner[1] != ():
        return [("answer", answer) for answer in range(-2, part.worths)]
    return [("call", door, worth) for door in part.doors for worth in range(part.worths)]


def deeds_behind(part, inner, comes):
    if comes[0] == "call":
        return called(part, inner, comes[1], comes[2])
    return answered(part, inner, comes[1])


def is_pair(elder, newer, value):
    """Whether any value is (inner of the newer, inners of the elder), all of which wait, or none."""
    if not is_tuple(value, 2) or not is_inner(newer, value[0]) or not isinstance(value[1], tuple):
        return False
    if not all([is_inner(elder, inner) for inner in value[1]]) or not ascends(value[1]):
        return False
    return all([(inner[1] == ()) == (value[0][1] == ()) for inner in value[1]])


def entries(system, name, newer):
    """("entries", each row of states at which the part is at rest and how the newer breaks from there, table)."""
    fresh = Bench(system.with_part(name, newer), name)
    rows = rows_at_rest(scenes_kept(Bench(system, name), MOST_MEMBERS))
    found = [(row, search([entry(newer, row)], lambda scene: fresh.moves(scene))[0]) for row in rows]
    kept = [entry(newer, row) for row, run in found if run == ()]
    _, ways = search(kept, lambda scene: fresh.moves(scene))
    return "entries", tuple(found), tuple(sorted(ways))


def shows_entries(system, name, newer, value):
    """Whether any value is a result that entries may tell, right by itself."""
    fresh = Bench(system.with_part(name, newer), name)
    rows = rows_at_rest(scenes_kept(Bench(system, name), None))
    if not is_tuple(value, 3) or value[0] != "entries" or not is_tuple(value[1], len(rows)):
        return False
    if not all([is_entry(fresh, row, told) for row, told in zip(rows, value[1])]):
        return False
    kept = [entry(newer, row) for row, run in value[1] if run == ()]
    return is_table(fresh, kept, value[2])


def rows_at_rest(scenes):
    """The rows of states of all scenes at which the part does nothing, ascending."""
    return sorted({states for inner, opens, _, coming, states in scenes if inner[1] == opens == coming == ()})


def entry(part, row):
    """The scene at which a part comes in."""
    return first_inner(part), (), (), (), row


def is_entry(fresh, row, value):
    """Whether any value is the row, and () or a run by which the newer part breaks from there."""
    if not is_tuple(value, 2) or not is_like(value[0], row):
        return False
    if value[1] == ():
        return True
    return is_run_to_fault(entry(fresh.subject, row), lambda scene: fresh.moves(scene), value[1])
