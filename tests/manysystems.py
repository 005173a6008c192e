"""Many small systems, drawn by a seed: parts, wires and pacts of all kinds."""

from random import Random

from truestandins.errors import BadText, WireError
from truestandins.inners import called
from truestandins.keeping import keeps
from truestandins.parts import Part
from truestandins.systems import System

# Who asks whom: a line, two at one, one at two over two ports, rings of two and three, a ring with somebody beside it.
SHAPES = (
    ("a", ()), ("ab", (("a", "p", "b"),)), ("ab", (("a", "p", "b"),)), ("abc", (("a", "p", "b"), ("b", "p", "c"))),
    ("abc", (("a", "p", "c"), ("b", "p", "c"))), ("ab", (("a", "p", "b"), ("a", "q", "b"))),
    ("ab", (("a", "p", "b"), ("b", "p", "a"))), ("abc", (("a", "p", "b"), ("b", "p", "c"), ("c", "p", "a"))),
    ("abc", (("a", "p", "b"), ("b", "p", "a"), ("c", "p", "a"))), ("abc", (("a", "p", "b"), ("b", "p", "c"), ("a", "q", "c"))),
)
# Four parts: a line, a diamond, a ring, a ring of two that is asked from outside of it.
WIDE_SHAPES = (
    ("abcd", (("a", "p", "b"), ("b", "p", "c"), ("c", "p", "d"))),
    ("abcd", (("a", "p", "b"), ("a", "q", "c"), ("b", "p", "d"), ("c", "p", "d"))),
    ("abcd", (("a", "p", "b"), ("b", "p", "c"), ("c", "p", "d"), ("d", "p", "a"))),
    ("abcd", (("a", "p", "b"), ("b", "p", "c"), ("c", "p", "b"), ("b", "q", "d"))),
)
DOORS = ("x", "y")


def random_system(seed, loose=0.85, states=2, shapes=SHAPES):
    """A system of one of the shapes; rows and answers are let with this likelihood."""
    draw = Random(seed)
    while True:
        try:
            return drawn_system(draw, loose, states, shapes)
        except BadText:
            # A part of more than 24 statements.
            continue


def drawn_system(draw, loose, states, shapes):
    names, wires = draw.choice(shapes)
    doors = {name: DOORS[:draw.randint(1, 2)] for name in names}
    rows = ["worths 2"]
    for name in names:
        ports = {port: offerer for user, port, offerer in wires if user == name}
        rows += ["part " + name] + ["  " + row for row in part_rows(draw, doors[name], ports, doors)]
    for user, port, offerer in wires:
        rows += [f"wire {user} {port} {offerer}"] + pact_rows(draw, doors[offerer], loose, states)
    for name in draw.sample(names, draw.randint(1, min(2, len(names)))):
        rows += ["outer " + name] + pact_rows(draw, doors[name], loose, states)
    return System("\n".join(rows))


def part_rows(draw, own, ports, doors):
    cells = ["m", "n"][:draw.randint(0, 2)]
    rows = [f"cell {cell} {draw.randint(0, 1)}" for cell in cells] + ["port " + port for port in ports]
    for door in own:
        rows.append("door " + door)
        rows += block(draw, cells, {port: doors[offerer] for port, offerer in ports.items()}, 1)
    return rows


def block(draw, cells, ports, depth):
    rows = []
    for _ in range(draw.randint(1, 3 if depth == 1 else 2)):
        rows += statement(draw, cells, ports, depth)
    return rows


def statement(draw, cells, ports, depth):
    margin = "  " * depth
    sources = ["0", "1", "it", "got"] + cells
    kinds = ["answer", "fail"] + ["if"] * 3 * (depth < 3) + ["set", "add", "draw", "draw"] * bool(cells)
    kinds += ["ask"] * 6 * bool(ports) + ["while"] * (bool(ports) and depth < 2)
    kind = draw.choice(kinds)
    if kind in ("set", "add"):
        return [f"{margin}{kind} {draw.choice(cells)} {draw.choice(sources)}"]
    if kind == "draw":
        return [f"{margin}draw {draw.choice(cells)}"]
    if kind == "ask":
        return [margin + asked(draw, sources, ports)]
    if kind == "answer":
        return [f"{margin}answer {draw.choice(sources)}"]
    if kind == "fail":
        return [margin + "fail"]
    test = draw.choice(["lost", "busy"] + [f"{draw.choice(sources)} {sign} {draw.choice(sources)}" for sign in ("=", "!=")])
    if kind == "while":
        return [f"{margin}while {test}", f"{margin}  {asked(draw, sources, ports)}"]
    rows = [f"{margin}if {test}"] + block(draw, cells, ports, depth + 1)
    return rows + ([f"{margin}else"] + block(draw, cells, ports, depth + 1) if draw.random() < 0.4 else [])


def asked(draw, sources, ports):
    port = draw.choice(sorted(ports))
    return f"ask {port} {draw.choice(ports[port])} {draw.choice(sources)}"


def pact_rows(draw, doors, loose, states):
    many = draw.randint(1, states)
    rows = []
    for state in range(many):
        rows.append(f"  state {state}")
        for door in doors:
            for worth in (0, 1):
                answers = [answer for answer in ("0", "1", "lost", "busy") if draw.random() < loose] or ["0"]
                if draw.random() < loose:
                    outcomes = ", ".join(f"{answer} {draw.randrange(many)}" for answer in answers)
                    rows.append(f"    {door} {worth} -> {outcomes}")
    return rows


def keeps_all(system):
    try:
        return all(keeps(system, name)[0] == "keeps" for name in system.parts)
    except WireError:
        return False


def kept_systems(many, first=0, shapes=SHAPES):
    """So many systems all parts of which keep their pacts."""
    found = []
    seed = first
    while len(found) < many:
        system = random_system(seed, 0.92, shapes=shapes)
        if keeps_all(system):
            found.append(system)
        seed += 1
    return found


def other_edition(draw, part):
    """The part with a line or some changed: mostly it draws less, or more, or gives other answers."""
    while True:
        # What it is changed to may be no text of a part.
        rows = part.text.split("\n")
        for _ in range(draw.randint(1, 2)):
            at = draw.randrange(len(rows))
            rows[at] = changed_row(draw, rows[at])
        try:
            return Part(part.worths, "\n".join(row for row in rows if row))
        except BadText:
            continue


def changed_row(draw, row):
    words = row.split()
    margin = row[:len(row) - len(row.lstrip())]
    if words[0] == "draw":
        return f"{margin}set {words[1]} {draw.randint(0, 1)}"
    if words[0] == "set":
        return f"{margin}draw {words[1]}" if draw.random() < 0.5 else f"{margin}set {words[1]} {draw.randint(0, 1)}"
    if words[0] in ("answer", "fail"):
        return margin + draw.choice(["answer 0", "answer 1", "answer it", "fail"])
    if words[0] == "cell":
        return f"cell {words[1]} {draw.randint(0, 1)}"
    if words[0] == "ask":
        return f"{margin}ask {words[1]} {words[2]} {draw.choice(['0', '1', 'it', words[3]])}"
    if words[0] in ("if", "while") and len(words) == 4:
        return f"{margin}{words[0]} {words[1]} {'!=' if words[2] == '=' else '='} {words[3]}"
    return row


def telling_systems(many, first=0):
    """Systems with a part whose pact tells by its states what it has in its cells; some with somebody who asks it."""
    found = []
    seed = first
    while len(found) < many:
        draw = Random(seed)
        seed += 1
        rows = part_rows(draw, DOORS, {}, {})
        try:
            pact = telling_pact(Part(2, "\n".join(rows)))
        except BadText:
            continue
        if pact.count("state") < 2:
            continue
        lines = ["worths 2", "part a"] + ["  " + row for row in rows]
        if draw.random() < 0.5:
            lines += ["part u", "  port p"]
            for door in DOORS:
                lines += [f"  door {door}", f"    ask p {door} it", "    if lost", "      fail", "    answer got"]
            every = pact.replace("busy", "lost")
            lines += ["wire u p a"] + ["  " + row for row in every.split("\n")]
            lines += ["outer u"] + ["  " + row for row in every.split("\n")]
        else:
            lines += ["outer a"] + ["  " + row for row in pact.split("\n")]
        found.append(System("\n".join(lines)))
    return [system for system in found if keeps_all(system)]


def telling_pact(part):
    """The text of a pact that lets what a part without ports does, wherever the answer tells its cells."""
    cells = [tuple(worth for _, worth in part.cells)]
    rows = []
    for now in cells:
        rows.append(f"state {cells.index(now)}")
        for door in part.doors:
            for worth in range(part.worths):
                behind = [(deed[1], inner[0]) for deed, inner in called(part, (now, ()), door, worth)]
                if len(dict(behind)) == len(behind):
                    cells += [later for later in dict.fromkeys(later for _, later in behind) if later not in cells]
                    shown = ", ".join(f"{'lost' if answer < 0 else answer} {cells.index(later)}" for answer, later in behind)
                    rows.append(f"  {door} {worth} -> {shown}")
    return "\n".join(rows)
