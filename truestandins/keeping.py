"""Whether a part keeps its pacts beside the pacts of the others."""

from truestandins.forms import ascends, is_tuple
from truestandins.scenes import Bench
from truestandins.searching import is_closed, is_run_to_fault, search


def keeps(system, name):
    """("keeps", all scenes that can come), or ("breaks", a run of fewest events)."""
    bench = Bench(system, name)
    run, scenes = search(bench.first(), lambda scene: bench.moves(scene))
    return ("breaks", run) if run else ("keeps", tuple(sorted(scenes)))


def shows_keeps(system, name, value):
    """Whether any value is a result that keeps may tell, right by itself."""
    bench = Bench(system, name)
    if not is_tuple(value, 2):
        return False
    if value[0] == "breaks":
        return is_run_to_fault(bench.first(), lambda scene: bench.moves(scene), value[1])
    return value[0] == "keeps" and is_table(bench, value[1])


def is_table(bench, value):
    """Whether it is a closed ascending tuple of scenes, behind which all that the part does is let."""
    if not isinstance(value, tuple) or not all([bench.is_scene(scene) for scene in value]):
        return False
    return ascends(value) and is_closed(bench.first(), lambda scene: bench.moves(scene), value)
