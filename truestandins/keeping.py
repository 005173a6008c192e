"""Whether a part keeps its pacts beside the pacts of the others."""

from truestandins.errors import NotKept
from truestandins.forms import ascends, is_tuple
from truestandins.scenes import Bench
from truestandins.searching import is_closed, is_run_to_fault, search


def keeps(system, name):
    """("keeps", all scenes that can come), or ("breaks", a run of fewest events)."""
    return kept_or_not(Bench(system, name))


def shows_keeps(system, name, value):
    """Whether any value is a result that keeps may tell, right by itself."""
    bench = Bench(system, name)
    if not is_tuple(value, 2):
        return False
    if value[0] == "breaks":
        return is_run_to_fault(bench.first(), lambda scene: bench.moves(scene), value[1])
    return value[0] == "keeps" and is_table(bench, [bench.first()], value[1])


def kept_or_not(bench):
    run, ways = search([bench.first()], lambda scene: bench.moves(scene))
    return ("breaks", run) if run else ("keeps", tuple(sorted(ways)))


def is_table(bench, starts, value):
    """Whether any value is a closed ascending tuple of scenes with the starts."""
    return are_scenes(bench, value) and is_closed(starts, lambda scene: bench.moves(scene), value)


def are_scenes(bench, value):
    """Whether any value is an ascending tuple of scenes by their form."""
    return isinstance(value, tuple) and all([bench.is_scene(scene) for scene in value]) and ascends(value)


def ways_kept(bench, most):
    """All scenes of a part that keeps its pacts, and how they were met."""
    run, ways = search([bench.first()], lambda scene: bench.moves(scene), most)
    if run:
        raise NotKept(bench.name)
    return ways


def scenes_kept(bench, most):
    """All scenes of a part that keeps its pacts, as search meets them."""
    return list(ways_kept(bench, most))


def need_kept(system, most):
    """Raises NotKept by the first part that breaks, looking at no more than most scenes of each part."""
    for name in system.parts:
        ways_kept(Bench(system, name), most)
