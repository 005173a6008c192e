"""Many small systems, drawn by a seed: parts, wires and pacts of all kinds."""

from random import Random

from truestandins.errors import BadText, WireError
from truestandins.keeping import keeps
from truestandins.systems import System

# Who asks whom: a line, two at one, one at two over two ports, rings of two and three, a ring with somebody beside it.
SHAPES = (
    ("a", ()), ("ab", (("a", "p", "b"),)), ("ab", (("a", "p", "b"),)), ("abc", (("a", "p", "b"), ("b", "p", "c"))),
    ("abc", (("a", "p", "c"), ("b", "p", "c"))), ("ab", (("a", "p", "b"), ("a", "q", "b"))),
    ("ab", (("a", "p", "b"), ("b", "p", "a"))), ("abc", (("a", "p", "b"), ("b", "p", "c"), ("c", "p", "a"))),
    ("abc", (("a", "p", "b"), ("b", "p", "a"), ("c", "p", "a"))), ("abc", (("a", "p", "b"), ("b", "p", "c"), ("a", "q", "c"))),
)
DOORS = ("x", "y")


def random_system(seed, loose=0.85, states=2):
    """A system of one of the shapes; rows and answers are let with this likelihood."""
    draw = Random(seed)
    while True:
        try:
            return drawn_system(draw, loose, states)
        except BadText:
            # A part of more than 24 statements.
            continue


def drawn_system(draw, loose, states):
    names, wires = draw.choice(SHAPES)
    doors = {name: DOORS[:draw.randint(1, 2)] for name in names}
    rows = ["worths 2"]
    for name in names:
        ports = {port: offerer for user, port, offerer in wires if user == name}
        rows += ["part " + name] + ["  " + row for row in part_rows(draw, doors[name], ports, doors)]
    for user, port, offerer in wires:
        rows += [f"wire {user} {port} {offerer}"] + pact_rows(draw, doors[offerer], loose, states)
    for name in draw.sample(names, draw.randint(1, min(2, len(names)))):
        rows += ["outer " + name] + pact_rows(draw, doors[name], loose, states)
    return System("\n".join(rows))


def part_rows(draw, own, ports, doors):
    cells = ["m", "n"][:draw.randint(0, 2)]
    rows = [f"cell {cell} {draw.randint(0, 1)}" for cell in cells] + ["port " + port for port in ports]
    for door in own:
        rows.append("door " + door)
        rows += block(draw, cells, {port: doors[offerer] for port, offerer in ports.items()}, 1)
    return rows


def block(draw, cells, ports, depth):
    rows = []
    for _ in range(draw.randint(1, 3 if depth == 1 else 2)):
        rows += statement(draw, cells, ports, depth)
    return rows


def statement(draw, cells, ports, depth):
    margin = "  " * depth
    sources = ["0", "1", "it", "got"] + cells
    kinds = ["answer", "fail"] + ["if"] * 3 * (depth < 3) + ["set", "add", "draw", "draw"] * bool(cells)
    kinds += ["ask"] * 6 * bool(ports) + ["while"] * (bool(ports) and depth < 2)
    kind = draw.choice(kinds)
    if kind in ("set", "add"):
        return [f"{margin}{kind} {draw.choice(cells)} {draw.choice(sources)}"]
    if kind == "draw":
        return [f"{margin}draw {draw.choice(cells)}"]
    if kind == "ask":
        return [margin + asked(draw, sources, ports)]
    if kind == "answer":
        return [f"{margin}answer {draw.choice(sources)}"]
    if kind == "fail":
        return [margin + "fail"]
    test = draw.choice(["lost", "busy"] + [f"{draw.choice(sources)} {sign} {draw.choice(sources)}" for sign in ("=", "!=")])
    if kind == "while":
        return [f"{margin}while {test}", f"{margin}  {asked(draw, sources, ports)}"]
    rows = [f"{margin}if {test}"] + block(draw, cells, ports, depth + 1)
    return rows + ([f"{margin}else"] + block(draw, cells, ports, depth + 1) if draw.random() < 0.4 else [])


def asked(draw, sources, ports):
    port = draw.choice(sorted(ports))
    return f"ask {port} {draw.choice(ports[port])} {draw.choice(sources)}"


def pact_rows(draw, doors, loose, states):
    many = draw.randint(1, states)
    rows = []
    for state in range(many):
        rows.append(f"  state {state}")
        for door in doors:
            for worth in (0, 1):
                answers = [answer for answer in ("0", "1", "lost", "busy") if draw.random() < loose] or ["0"]
                if draw.random() < loose:
                    outcomes = ", ".join(f"{answer} {draw.randrange(many)}" for answer in answers)
                    rows.append(f"    {door} {worth} -> {outcomes}")
    return rows


def keeps_all(system):
    try:
        return all(keeps(system, name)[0] == "keeps" for name in system.parts)
    except WireError:
        return False


def kept_systems(many, first=0):
    """So many systems all parts of which keep their pacts."""
    found = []
    seed = first
    while len(found) < many:
        system = random_system(seed, 0.92)
        if keeps_all(system):
            found.append(system)
        seed += 1
    return found
