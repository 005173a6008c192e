"""Whether runs of the whole keep all pacts."""

from truestandins.forms import is_tuple
from truestandins.keeping import keeps
from truestandins.moments import Stage
from truestandins.searching import is_closed, is_run_to_fault, search


def whole(system):
    """("kept", all moments that can come), or ("broken", a run of fewest events)."""
    stage = Stage(system)
    run, ways = search([stage.first()], lambda moment: stage.moves(moment))
    return ("broken", run) if run else ("kept", tuple(sorted(ways)))


def shows_whole(system, value):
    """Whether any value is a result that whole may tell, right by itself."""
    stage = Stage(system)
    if not is_tuple(value, 2):
        return False
    if value[0] == "broken":
        return is_run_to_fault(stage.first(), lambda moment: stage.moves(moment), value[1])
    if value[0] != "kept" or not stage.are_moments(value[1]):
        return False
    return is_closed([stage.first()], lambda moment: stage.moves(moment), value[1])


def judged(system):
    """What keeps tells of each part, and whole of all together."""
    words = [(name, keeps(system, name)[0]) for name in system.parts]
    return (*words, ("", whole(system)[0]))
