"""Rows of pacts that the real parts never come to."""

from truestandins.forms import is_integer, is_like, is_tuple
from truestandins.items import items_of, moves_beside, producer
from truestandins.keeping import are_scenes, need_kept
from truestandins.moments import Stage
from truestandins.scenes import Bench
from truestandins.searching import MOST_MEMBERS, is_closed, members_along, run_to, search

WORDS = ("whole", "needed", "spare")


def lived(system):
    """("rows", a word and evidence for each item, all moments, all scenes of each part beside the least set)."""
    need_kept(system, MOST_MEMBERS)
    stage = Stage(system)
    _, ways = search([stage.first()], lambda moment: stage.moves(moment))
    runs = whole_runs(stage, ways)
    evidence, tables = needed_items(system, runs)
    rows = []
    for item in items_of(system):
        if item in runs:
            rows.append((item, "whole", runs[item]))
        elif item in evidence:
            rows.append((item, "needed", evidence[item]))
        else:
            rows.append((item, "spare", ()))
    return "rows", tuple(rows), tuple(sorted(ways)), tables


def whole_runs(stage, ways):
    """For each item to which runs of the whole come one of fewest events."""
    found = {}
    for moment in ways:
        for event, _ in stage.moves(moment):
            # Moments are met in the sequence of the events they need.
            found.setdefault(stage.item(moment, event), (moment, event))
    return {item: run_to(ways, found[item][0]) + (found[item][1],) for item in found}


def needed_items(system, whole_items):
    """(evidence for each item of the least set to which no run of the whole comes, the tables beside this set)."""
    benches = [Bench(system, name) for name in system.parts]
    known = {item: True for item in whole_items}
    evidence = {}
    rank = 0
    going = True
    while going:
        ways = [scenes_beside(bench, known) for bench in benches]
        fresh = {
            item: (rank, bench.name, run)
            for bench, met in zip(benches, ways) for item, run in new_items(bench, met, known)
        }
        for item in fresh:
            known[item] = True
            evidence[item] = fresh[item]
        rank += 1
        going = fresh != {}
    return evidence, tuple(tuple(sorted(met)) for met in ways)


def scenes_beside(bench, items):
    """All scenes of a part beside these items, and how they were met."""
    return search([bench.first()], lambda scene: moves_beside(bench, lambda item: item in items, scene))[1]


def new_items(bench, ways, known):
    """Each item that is not known and is an event of the part at one of its scenes, and a run to it."""
    found = {}
    for scene in ways:
        events = [event for event, _ in bench.moves(scene)] if scene[3] != () else []
        for event in events:
            item = bench.item(scene, event)
            if item not in known and item not in found:
                found[item] = run_to(ways, scene) + (event,)
    return list(found.items())


def shows_lived(system, value):
    """Whether any value is a result that lived may tell, right by itself."""
    need_kept(system, None)
    if not is_tuple(value, 4) or value[0] != "rows" or not are_rows(system, value[1]):
        return False
    _, rows, moments, tables = value
    told = {item: (word, evidence) for item, word, evidence in rows}
    stage = Stage(system)
    if not are_whole_moments(stage, told, moments):
        return False
    if not all([is_run_of_whole(stage, item, evidence) for item, word, evidence in rows if word == "whole"]):
        return False
    benches = {name: Bench(system, name) for name in system.parts}
    if not is_tuple(tables, len(system.parts)):
        return False
    if not all([is_table_beside(benches[name], told, table) for name, table in zip(system.parts, tables)]):
        return False
    return all([
        is_needed(benches[evidence[1]], told, item, evidence) for item, word, evidence in rows if word == "needed"
    ])


def are_rows(system, value):
    """Whether any value has a word and evidence for each item, by their form."""
    items = items_of(system)
    if not is_tuple(value, len(items)):
        return False
    return all([is_row(system, item, row) for item, row in zip(items, value)])


def is_row(system, item, value):
    if not is_tuple(value, 3) or not is_like(value[0], item) or value[1] not in WORDS:
        return False
    _, word, evidence = value
    if word == "spare":
        return evidence == ()
    if word == "whole":
        return isinstance(evidence, tuple)
    if not is_tuple(evidence, 3) or not is_integer(evidence[0]) or evidence[0] < 0:
        return False
    return evidence[1] in system.parts and evidence[1] == producer(system, item) and isinstance(evidence[2], tuple)


def are_whole_moments(stage, told, value):
    """Whether any value is a closed table of moments whose events are just the items that are told whole."""
    if not stage.are_moments(value) or not is_closed([stage.first()], lambda moment: stage.moves(moment), value):
        return False
    met = {stage.item(moment, event): True for moment in value for event, _ in stage.moves(moment)}
    return all([(item in met) == (told[item][0] == "whole") for item in told])


def is_run_of_whole(stage, item, run):
    """Whether a tuple of any values is a run of the whole to an item."""
    moments = members_along(stage.first(), lambda moment: stage.moves(moment), run[:-1])
    return leads_to(stage, moments, item, run)


def leads_to(place, members, item, run):
    """Whether the last one of a tuple of any values is an event that comes at one of the members to the item."""
    found = [
        True for member in members for event, _ in place.moves(member)
        if run and is_like(run[-1], event) and place.item(member, event) == item
    ]
    return found != []


def is_table_beside(bench, told, value):
    """Whether any value is a table of scenes that is closed beside all items that are told whole or needed."""
    if not are_scenes(bench, value):
        return False
    moves = lambda scene: moves_beside(bench, lambda item: told[item][0] != "spare", scene)
    if not is_closed([bench.first()], moves, value):
        return False
    own = [(scene, event) for scene in value if scene[3] != () for event, _ in bench.moves(scene)]
    return all([told[bench.item(scene, event)][0] != "spare" for scene, event in own])


def is_needed(bench, told, item, evidence):
    """Whether a tuple of any values is a run of the part to the item, by items that are known without it."""
    rank, _, run = evidence
    moves = lambda scene: moves_beside(bench, lambda other: is_known(told, other, rank), scene)
    return leads_to(bench, members_along(bench.first(), moves, run[:-1]), item, run)


def is_known(told, item, rank):
    """Whether an item is whole, or has a lesser rank."""
    word, evidence = told[item]
    return word == "whole" or word == "needed" and evidence[0] < rank
