"""Edits of a system that runs: parts and pacts that are put in at once."""

from truestandins.errors import TooMany
from truestandins.forms import ascends, is_tuple
from truestandins.inners import first_inner
from truestandins.pacttexts import show_pact
from truestandins.scenes import Bench
from truestandins.searching import search
from truestandins.systems import indented
from truestandins.texts import wire_text


def edited_system(system, parts, pacts):
    """The system with what any two values put in, None if they are no edit that fits."""
    if not are_put_in(system.parts, parts) or not are_put_in(system.wires, pacts) or parts == pacts == ():
        return None
    return system.with_all({name: part for name, part in parts}, {wire: pact for wire, pact in pacts})


def are_put_in(known, value):
    """Whether any value is a tuple of (name or wire, what is put in), ascending by those that are known."""
    if not isinstance(value, tuple) or not all([is_tuple(row, 2) and row[0] in known for row in value]):
        return False
    return ascends([key for key, _ in value])


def edited_moments(system, parts, pacts, moments):
    """The moments of the edited system: its new parts and pacts begin anew."""
    fresh = {system.parts.index(name): first_inner(part) for name, part in parts}
    moved = {system.wires.index(wire): 0 for wire, _ in pacts}
    return tuple(sorted({
        (with_fresh(inners, fresh), stack, given, with_fresh(states, moved)) for inners, stack, given, states in moments
    }))


def with_fresh(row, fresh):
    """The tuple with other members at the places that are told."""
    return tuple(fresh.get(at, elder) for at, elder in enumerate(row))


def all_keep(system, moments):
    """Whether all parts keep their pacts from these moments at rest on, None where too much comes to tell."""
    for at, name in enumerate(system.parts):
        bench = Bench(system, name)
        columns = [system.wires.index(wire) for wire in bench.wires]
        starts = [
            (inners[at], (), (), (), tuple(states[column] for column in columns)) for inners, _, _, states in moments
        ]
        try:
            run, _ = search(starts, lambda scene: bench.moves(scene))
        except TooMany:
            return None
        if run:
            return False
    return True


def edit_text(parts, pacts):
    rows = ["edit"]
    for name, part in parts:
        rows += [f"  part {name}", indented(indented(part.text))]
    for wire, pact in pacts:
        rows += [f"  pact {wire_text(wire)}", indented(indented(show_pact(pact)))]
    return "\n".join(rows)
