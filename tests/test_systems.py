import unittest
from itertools import permutations

from tests.helping import ODD_VALUES, exactly, told
from tests.test_pacts import FREE, WRONG_PACTS
from truestandins.pacttexts import read_pact, show_pact
from truestandins.parts import Part
from truestandins.systems import System

TEXT = (
    "worths 2\npart till\n  port shop\n  door pay\n    ask shop get it\n    if lost\n      fail\n    answer got\n"
    "part shop\n  cell has 1\n  door get\n    if has = 0\n      fail\n    set has 0\n    answer it\n  door fill\n"
    "    set has 1\nwire till shop shop\n  state 0\n    get any -> any 0, lost 0\nouter till\n  state 0\n"
    "    pay any -> any 0, lost 0\nouter shop\n  state 0\n    fill 0 -> 0 0"
)
SHOWN = TEXT.replace("    get any -> any 0, lost 0", "    get 0 -> 0 0, 1 0, lost 0\n    get 1 -> 0 0, 1 0, lost 0").replace(
    "    pay any -> any 0, lost 0", "    pay 0 -> 0 0, 1 0, lost 0\n    pay 1 -> 0 0, 1 0, lost 0")
TILL = "port shop\ndoor pay\n  ask shop get it\n  if lost\n    fail\n  answer got"
SHOP = "cell has 1\ndoor get\n  if has = 0\n    fail\n  set has 0\n  answer it\ndoor fill\n  set has 1"

# Two parts that ask one another, one of them over two ports.
A = ["part a", "  port p", "  port q", "  door go", "    ask p come 0", "    ask q come 1"]
B = ["part b", "  port p", "  door come", "    ask p go 0"]
AP = ["wire a p b", "  state 0", "    come 0 -> 0 0"]
AQ = ["wire a q b", "  state 0", "    come 1 -> any 1", "  state 1"]
BP = ["wire b p a", "  state 0", "    go 0 -> busy 0"]
OUT = ["outer a", "  state 0", "    go any -> any 0"]
OUTB = ["outer b", "  state 0", "    come 0 -> lost 0"]
ROWS = ["worths 2"] + A + B + AP + AQ + BP + OUT


def system_of(rows):
    return System("\n".join(rows))


def bad(rows):
    """The number that BadText tells of the lines, None if they are right."""
    found = told(lambda: system_of(rows))
    return found[1] if isinstance(found, tuple) and found[0] == "BadText" else None


def one_part(name, wires=()):
    """Lines of a part without ports (or with a port for each of the wires) that has the one door x."""
    rows = [f"part {name}"] + [f"  port {port}" for port in wires] + ["  door x"]
    return rows + ([f"    ask {port} x it" for port in wires] or ["    answer it"])


def wire(user, port, offerer):
    return [f"wire {user} {port} {offerer}", "  state 0", "    x any -> any 0"]


def outer(offerer):
    return [f"outer {offerer}", "  state 0", "    x any -> any 0"]


class Example(unittest.TestCase):
    def test_as_it_stands(self):
        system = System(TEXT)
        self.assertEqual([system.parts, system.wires, system.offerer(("till", "shop")), system.pact(("", "shop"))], [
            ("till", "shop"), (("", "shop"), ("", "till"), ("till", "shop")), "shop",
            ((("fill", 0, ((0, 0),)),),)])


class Properties(unittest.TestCase):
    def test_of_the_ring(self):
        system = system_of(ROWS)
        self.assertEqual(system.text, "\n".join(ROWS))
        self.assertEqual(system.worths, 2)
        self.assertEqual(system.parts, ("a", "b"))
        self.assertEqual(system.wires, (("", "a"), ("a", "p"), ("a", "q"), ("b", "p")))
        self.assertEqual([system.offerer(wire) for wire in system.wires], ["a", "b", "b", "a"])
        self.assertEqual(system.part("a"), Part(2, "\n".join(row[2:] for row in A[1:])))
        self.assertEqual(system.part("b"), Part(2, "\n".join(row[2:] for row in B[1:])))
        self.assertEqual(system.pact(("a", "q")), ((("come", 1, ((0, 1), (1, 1))),), ()))
        self.assertEqual(system.pact(("", "a")), ((("go", 0, ((0, 0), (1, 0))), ("go", 1, ((0, 0), (1, 0)))),))

    def test_they_are_set_on_the_object(self):
        for name in ("text", "worths", "parts", "wires"):
            self.assertTrue(hasattr(System(TEXT), name))

    def test_parts_in_their_sequence(self):
        rows = ["worths 3"] + one_part("z") + one_part("y") + one_part("x") + one_part("w") + outer("x")
        system = system_of(rows)
        self.assertEqual(system.parts, ("z", "y", "x", "w"))
        self.assertEqual(system.wires, (("", "x"),))
        self.assertEqual([system.worths, system.part("w").worths], [3, 3])

    def test_wires_in_any_sequence(self):
        for mixed in permutations((AP, AQ, BP)):
            system = system_of(["worths 2"] + A + B + mixed[0] + mixed[1] + mixed[2] + OUT)
            self.assertEqual(system.wires, (("", "a"), ("a", "p"), ("a", "q"), ("b", "p")))
            self.assertEqual(system, system_of(ROWS))
        for mixed in permutations((OUT, OUTB)):
            system = system_of(ROWS[:-3] + mixed[0] + mixed[1])
            self.assertEqual(system.wires[:2], (("", "a"), ("", "b")))

    def test_names_that_there_are_not(self):
        system = System(TEXT)
        for value in ("pay", "Till", "till ", ("till",)) + ODD_VALUES:
            self.assertEqual(exactly(told(lambda: system.part(value))), exactly(("NoPart", value)))
        for value in ("till", ("till", "pay"), ("shop", "till"), ("", "pay"), ("", ""), ["till", "shop"],
                      ("till", "shop", "shop"), ("till",), ("shop", ""), ("shop", "shop")) + ODD_VALUES:
            self.assertEqual(exactly(told(lambda: system.offerer(value))), exactly(("NoWire", value)))
            self.assertEqual(exactly(told(lambda: system.pact(value))), exactly(("NoWire", value)))

    def test_by_name(self):
        system = System(text=TEXT)
        self.assertEqual(system.part(name="till"), Part(2, TILL))
        self.assertEqual([system.offerer(wire=("", "till")), system.pact(wire=("till", "shop"))], ["till", FREE])


class Equality(unittest.TestCase):
    def test_however_it_is_written(self):
        self.assertTrue(System(TEXT) == System(TEXT))
        self.assertTrue(System(TEXT) == System(SHOWN))
        self.assertFalse(System(TEXT) != System(SHOWN))
        mixed = ROWS[:-3] + OUTB + ["outer a", "  state 0", "    go 1 -> 1 0, 0 0", "    go 0 -> any 0"]
        self.assertTrue(system_of(ROWS + OUTB) == system_of(mixed))

    def test_what_makes_another_one(self):
        for one, other in (("worths 2", "worths 3"), ("answer got", "answer it"), ("cell has 1", "cell has 0"),
                           ("get any -> any 0, lost 0", "get any -> any 0"), ("fill 0", "fill 1"),
                           ("\nouter shop\n  state 0\n    fill 0 -> 0 0", "")):
            self.assertIn(one, TEXT)
            self.assertFalse(System(TEXT) == System(TEXT.replace(one, other)), other)
            self.assertTrue(System(TEXT) != System(TEXT.replace(one, other)), other)

    def test_pacts_that_let_the_same_by_other_states_are_others(self):
        other = TEXT.replace("    fill 0 -> 0 0", "    fill 0 -> 0 1\n  state 1\n    fill 0 -> 0 0")
        self.assertFalse(System(TEXT) == System(other))

    def test_the_sequence_of_the_parts(self):
        one = ["worths 2"] + one_part("a") + one_part("b") + outer("a")
        other = ["worths 2"] + one_part("b") + one_part("a") + outer("a")
        self.assertFalse(system_of(one) == system_of(other))

    def test_names_and_offerers(self):
        head = ["worths 2"] + one_part("a", ("p",)) + one_part("b") + one_part("c")
        self.assertFalse(system_of(head + wire("a", "p", "b") + outer("a")) ==
                         system_of(head + wire("a", "p", "c") + outer("a")))
        self.assertFalse(system_of(head + wire("a", "p", "b") + outer("a")) ==
                         system_of(head + wire("a", "p", "b") + outer("b")))
        self.assertFalse(system_of(["worths 2"] + one_part("a") + outer("a")) ==
                         system_of(["worths 2"] + one_part("b") + outer("b")))

    def test_nothing_else_is_equal(self):
        for value in ODD_VALUES + (TEXT, Part(2, TILL)):
            self.assertFalse(System(TEXT) == value)
            self.assertTrue(System(TEXT) != value)


class Faults(unittest.TestCase):
    def test_no_string(self):
        for value in ODD_VALUES + (TEXT.encode(), TEXT.split("\n")):
            if not isinstance(value, str):
                self.assertEqual(told(lambda: System(value)), ("BadText", -1))

    def test_the_line_of_worths(self):
        for row in ("", "worths", "worths 1", "worths 5", "worths 02", "worths 2 2", "worth 2", "Worths 2", " worths 2",
                    "worths  2", "worths 2 ", "2", "part a", "worths \u0662", "worths two", "worths -2"):
            self.assertEqual(bad([row] + ROWS[1:]), 0, row)
        for worths in (2, 3, 4):
            self.assertEqual(system_of([f"worths {worths}"] + ROWS[1:]).worths, worths)

    def test_worths_bound_parts_and_pacts(self):
        for worths in (2, 3, 4):
            for worth in range(6):
                rows = [f"worths {worths}", "part a", "  door x", f"    answer {worth}", "outer a", "  state 0"]
                self.assertEqual(bad(rows), None if worth < worths else 3)
                rows = [f"worths {worths}", "part a", "  door x", "    answer 0", "outer a", "  state 0"]
                self.assertEqual(bad(rows + [f"    x {worth} -> 0 0"]), None if worth < worths else 6)
                self.assertEqual(bad(rows + [f"    x 0 -> {worth} 0"]), None if worth < worths else 6)

    def test_lines_of_parts(self):
        for row in ("part", "part a b", "part A", "part abcdefghi", "part a1", "parts a", " part a", "part  a", "part a ",
                    "door x", "", "outer a", "wire a p b"):
            self.assertEqual(bad(["worths 2", row] + ROWS[2:]), 1, row)
        for name in ("part", "wire", "outer", "any", "worths", "state", "abcdefgh"):
            self.assertEqual(system_of(["worths 2"] + one_part(name) + outer(name)).parts, (name,))

    def test_parts_of_one_name(self):
        self.assertEqual(bad(["worths 2"] + one_part("a") + one_part("a") + outer("a")), 4)
        self.assertEqual(bad(["worths 2"] + one_part("a") + one_part("b") + one_part("a") + outer("a")), 7)

    def test_how_many_parts(self):
        rows = ["worths 2"]
        for name in "abcd":
            rows += one_part(name)
            self.assertIsNone(bad(rows + outer("a")))
        self.assertEqual(bad(rows + one_part("e") + outer("a")), 13)

    def test_lines_in_parts(self):
        right = TEXT.split("\n")
        for at, row in enumerate(right):
            for wrong in ("nothing", "", row + " ", " " + row, row.replace(" ", "  ")):
                if wrong != row:
                    self.assertEqual(bad(right[:at] + [wrong] + right[at + 1:]), at, wrong)
        for at, wrong in ((4, "    ask shops get it"), (4, "    ask shop any it"), (7, "    answer 2"), (6, "    fail"),
                          (5, "    while lost"), (9, "  cell has 2"), (9, "  cell it 0"), (11, "    if had = 0"),
                          (15, "  door get"), (13, "      else"), (16, "    draw nothing")):
            expected = at + 1 if wrong == "    while lost" else at
            self.assertEqual(bad(right[:at] + [wrong] + right[at + 1:]), expected, wrong)

    def test_the_lines_of_asks_are_those_of_the_part(self):
        self.assertEqual(sorted(System(TEXT).part("till").text.split("\n")), sorted(TILL.split("\n")))
        self.assertEqual(System(TEXT).part("shop"), Part(2, SHOP))

    def test_lines_missing_in_parts(self):
        self.assertEqual(bad(["worths 2", "part a"]), 2)
        self.assertEqual(bad(["worths 2", "part a", "part b"]), 2)
        self.assertEqual(bad(["worths 2", "part a", "  port p"]), 3)
        self.assertEqual(bad(["worths 2", "part a", "  port p", "part b", "  door x", "    fail"]), 3)
        self.assertEqual(bad(["worths 2", "part a", "  door x"]), 3)
        self.assertEqual(bad(["worths 2", "part a", "  door x", "outer a"]), 3)
        self.assertEqual(bad(["worths 2", "part a", "  door x", "    if lost", "outer a"]), 4)

    def test_lines_missing_at_the_end(self):
        self.assertEqual(bad([""]), 0)
        self.assertEqual(bad(["worths 2"]), 1)
        row_of_aq = ROWS.index("    come 1 -> any 1")
        for many in range(1, len(ROWS)):
            # Without its last row the outer pact is whole; without its last state that of a q is not told right.
            expected = {len(ROWS) - 1: None, row_of_aq + 1: row_of_aq}.get(many, many)
            self.assertEqual(bad(ROWS[:many]), expected)
        self.assertEqual(bad(ROWS + [""]), len(ROWS))

    def test_parts_do_not_stand_behind_wires(self):
        at = len(["worths 2"] + A + B + AP)
        self.assertEqual(bad(["worths 2"] + A + B + AP + one_part("c") + AQ + BP + OUT), at)
        self.assertEqual(bad(ROWS + one_part("c")), len(ROWS))


class FaultsOfWires(unittest.TestCase):
    head = ["worths 2"] + A + B
    at = len(head)

    def test_forms(self):
        for row in ("wire", "wire a", "wire a p", "wire a p b b", "wires a p b", "Wire a p b", " wire a p b",
                    "wire  a p b", "wire a p b ", "wire - p b", "a p b", "", "state 0"):
            self.assertEqual(bad(self.head + [row] + AP[1:] + AQ + BP + OUT), self.at, row)

    def test_names_that_there_are_not(self):
        for row in ("wire c p b", "wire a r b", "wire a p c", "wire b q a", "wire a b p", "wire p a b", "wire A p b"):
            self.assertEqual(bad(self.head + [row] + AP[1:] + AQ + BP + OUT), self.at, row)

    def test_user_and_offerer_differ(self):
        rows = ["worths 2"] + one_part("a", ("p",)) + one_part("b")
        self.assertEqual(bad(rows + wire("a", "p", "a") + outer("a")), len(rows))
        self.assertIsNone(bad(rows + wire("a", "p", "b") + outer("a")))

    def test_each_port_once(self):
        self.assertEqual(bad(self.head + AP + AP + AQ + BP + OUT), self.at + 3)
        self.assertEqual(bad(self.head + AP + AQ + BP + AP + OUT), self.at + 10)
        rows = ["worths 2"] + one_part("a", ("p",)) + one_part("b") + one_part("c")
        self.assertEqual(bad(rows + wire("a", "p", "b") + wire("a", "p", "c") + outer("a")), len(rows) + 3)

    def test_ports_without_a_wire(self):
        self.assertEqual(bad(self.head + OUT), self.at)
        self.assertEqual(bad(self.head + AP + AQ + OUT), self.at + 7)
        self.assertEqual(bad(self.head + AP + AQ + OUT + BP), self.at + 7)
        self.assertEqual(bad(self.head + AP + AQ), self.at + 7)

    def test_doors_that_are_asked(self):
        rows = ["worths 2", "part a", "  port p", "  port q", "  door x", "    ask p y 0", "    fail", "    ask q x 0",
                "part b", "  door x", "    fail", "part c", "  door y", "    fail"]
        tail = outer("a")
        cy = ["wire a p c", "  state 0"]
        self.assertIsNone(bad(rows + cy + wire("a", "q", "b") + tail))
        self.assertIsNone(bad(rows + wire("a", "q", "b") + cy + tail))
        self.assertEqual(bad(rows + cy + wire("a", "q", "c") + tail), len(rows) + 2)
        self.assertEqual(bad(rows + ["wire a p b", "nothing"]), len(rows))
        deep = rows[:6] + ["    if lost", "      ask p z 0"] + rows[6:]
        self.assertEqual(bad(deep + cy + wire("a", "q", "b") + tail), len(deep))

    def test_doors_in_pacts(self):
        for pact, many in ((["  state 0", "    go 0 -> 0 0"], 1), (["  state 0", "  state 1", "    x 0 -> 0 0"], 2),
                           (["  state 0", "    come 0 -> 0 0", "    go 0 -> 0 0", "nothing"], 2)):
            self.assertEqual(bad(self.head + AP[:1] + pact + AQ + BP + OUT), self.at + 1 + many)
        self.assertEqual(bad(ROWS[:-1] + ["    come 0 -> 0 0"]), len(ROWS) - 1)
        self.assertEqual(bad(self.head + AP[:1] + ["  state 0", "    come 0 -> 9 0", "    go 0 -> 0 0"] + AQ), self.at + 2)

    def test_lines_in_pacts(self):
        for pact, many in ((["  state 1"], 0), (["  state 0", "    come 0 -> 0 1"], 1), (["state 0"], 0),
                           (["  state 0", "    come 0 -> 0 0", "    come any -> 1 0"], 2), ([], 0), ([""], 0),
                           (["  state 0", "  come 0 -> 0 0"], 1), (["  state 0", "      come 0 -> 0 0"], 1),
                           (["  state 0", "   come 0 -> 0 0"], 1), (["  state 0", "  "], 1), (["  state 0", ""], 1),
                           (["  state 0", "    come 0 -> 0 0, 0 0"], 1), (["    state 0"], 0), ([" state 0"], 0)):
            self.assertEqual(bad(self.head + AP[:1] + pact + AQ + BP + OUT), self.at + 1 + many, pact)
            last = [row.replace("come", "go") for row in pact]
            at = len(ROWS) - 3
            self.assertEqual(bad(ROWS[:at] + ["outer a"] + last), at + 1 + many, last)

    def test_states_are_told_up_to_a_line_that_is_less_deep(self):
        right = ["  state 0", "    come 0 -> 0 1", "  state 1"]
        self.assertIsNone(bad(self.head + AP[:1] + right + AQ + BP + OUT))
        for between in ("nothing", "", " nothing", "state 1", " "):
            self.assertEqual(bad(self.head + AP[:1] + right[:2] + [between] + right[2:]), self.at + 2, between)
        for between in ("  nothing", "      nothing", "   state 1"):
            self.assertEqual(bad(self.head + AP[:1] + right[:2] + [between] + right[2:]), self.at + 3, between)
        later = ["wire a p b", "  state 0", "    come 0 -> 0 1", "wire a q b", "  state 0", "  state 1"]
        self.assertEqual(bad(self.head + later + BP + OUT), self.at + 2)

    def test_outer_lines(self):
        at = len(ROWS) - 3
        for row in ("outer", "outer c", "outer a b", "outers a", "outer A", " outer a", "outer  a", "outer a ", "outer -",
                    "outer p", "wire a p b", "", "outer any"):
            self.assertEqual(bad(ROWS[:at] + [row] + OUT[1:]), at, row)
        self.assertEqual(bad(ROWS[:at]), at)
        self.assertEqual(bad(ROWS + OUT), len(ROWS))
        self.assertIsNone(bad(ROWS + OUTB))
        self.assertEqual(bad(ROWS + AP), len(ROWS))

    def test_two_outer_lines_at_most(self):
        rows = ["worths 2"] + one_part("a") + one_part("b") + one_part("c")
        self.assertIsNone(bad(rows + outer("c") + outer("a")))
        self.assertEqual(bad(rows + outer("a") + outer("b") + outer("c")), len(rows) + 6)
        self.assertEqual(bad(rows + outer("a") + outer("a")), len(rows) + 3)

    def test_six_wires_at_most(self):
        rows = ["worths 2"] + one_part("a", ("p", "q")) + one_part("b", ("p", "q"))
        more = one_part("c", ("p",)) + one_part("d")
        wires = wire("a", "p", "b") + wire("a", "q", "b") + wire("b", "p", "a") + wire("b", "q", "a")
        self.assertEqual(len(system_of(rows + wires + outer("a") + outer("b")).wires), 6)
        five = rows + more + wires + wire("c", "p", "a")
        self.assertEqual(len(system_of(five + outer("a")).wires), 6)
        self.assertEqual(bad(five + outer("a") + outer("b")), len(five) + 3)

    def test_the_seventh_wire_cannot_stand_there(self):
        rows = ["worths 2"] + one_part("a", ("p", "q")) + one_part("b", ("p", "q")) + one_part("c", ("p", "q"))
        wires = wire("a", "p", "b") + wire("a", "q", "b") + wire("b", "p", "a") + wire("b", "q", "a")
        six = wires + wire("c", "p", "a") + wire("c", "q", "a")
        self.assertEqual(bad(rows + six + outer("a")), len(rows + six))
        rows += one_part("d", ("p",))
        self.assertEqual(bad(rows + six + wire("d", "p", "a") + outer("a")), len(rows + six))

    def test_the_first_of_several(self):
        rows = ["worths 2"] + one_part("a") + ["outer b", "  state 1"]
        self.assertEqual(bad(rows), 4)
        self.assertEqual(bad(["worths 2", "part a", "  door x", "    answer 2", "part a", ""]), 3)
        self.assertEqual(bad(["worths 2", "part a", "  door x", "    answer 1", "part a", ""]), 4)


class WithPart(unittest.TestCase):
    system = System(TEXT)

    def wrong(self, name, part):
        return exactly(told(lambda: self.system.with_part(name, part)))

    def test_another_part(self):
        part = Part(2, TILL.replace("answer got", "answer it"))
        changed = self.system.with_part("till", part)
        self.assertIsInstance(changed, System)
        self.assertEqual(changed.part("till"), part)
        self.assertEqual(changed.part("shop"), self.system.part("shop"))
        self.assertEqual([changed.parts, changed.wires, changed.worths],
                         [self.system.parts, self.system.wires, 2])
        self.assertEqual([changed.pact(wire) for wire in changed.wires],
                         [self.system.pact(wire) for wire in changed.wires])
        self.assertEqual(changed.text, SHOWN.replace("answer got", "answer it"))
        self.assertEqual(changed, System(changed.text))
        self.assertFalse(changed == self.system)

    def test_the_same_part(self):
        self.assertEqual(self.system.with_part("shop", Part(2, SHOP)), self.system)
        self.assertEqual(self.system.with_part(part=Part(2, SHOP), name="shop").text, SHOWN)

    def test_the_elder_system_stays(self):
        system = System(TEXT)
        system.with_part("till", Part(2, TILL.replace("answer got", "answer it")))
        system.with_pact(("", "shop"), ((),))
        self.assertEqual(system.text, TEXT)
        self.assertEqual([system.part("till"), system.pact(("", "shop"))],
                         [Part(2, TILL), ((("fill", 0, ((0, 0),)),),)])
        self.assertEqual(system, System(TEXT))

    def test_no_part(self):
        part = Part(2, TILL)
        for value in ("pay", "", ("", "till")) + ODD_VALUES:
            self.assertEqual(exactly(told(lambda: self.system.with_part(value, part))), exactly(("NoPart", value)))
            self.assertEqual(exactly(told(lambda: self.system.with_part(value, None))), exactly(("NoPart", value)))

    def test_any_value(self):
        for value in ODD_VALUES + (TILL, (2, TILL)):
            self.assertEqual(self.wrong("till", value), exactly(("BadPart", value)))
        self.assertEqual(told(lambda: self.system.with_part("till", self.system)), ("BadPart", self.system))

    def refused(self, name, worths, text, system=None):
        part = Part(worths, text)
        found = told(lambda: (system or self.system).with_part(name, part))
        if isinstance(found, System):
            return False
        self.assertEqual(found[0], "BadPart")
        self.assertIs(found[1], part)
        return True

    def test_worths(self):
        self.assertTrue(self.refused("till", 3, TILL))
        self.assertTrue(self.refused("shop", 4, SHOP))

    def test_ports(self):
        self.assertTrue(self.refused("till", 2, "door pay\n  fail"))
        self.assertTrue(self.refused("till", 2, "port other\ndoor pay\n  fail"))
        self.assertTrue(self.refused("till", 2, "port shop\nport other\ndoor pay\n  fail"))
        self.assertTrue(self.refused("shop", 2, SHOP.replace("has 1\n", "has 1\nport shop\n")))
        ring = system_of(ROWS)
        self.assertTrue(self.refused("a", 2, "port q\nport p\ndoor go\n  fail", ring))
        self.assertFalse(self.refused("a", 2, "port p\nport q\ndoor go\n  fail", ring))

    def test_doors_that_users_ask(self):
        rows = ["worths 2"] + one_part("a", ("p",)) + one_part("b") + ["wire a p b", "  state 0"] + outer("a")
        system = system_of(rows)
        self.assertTrue(self.refused("b", 2, "door y\n  fail", system))
        self.assertFalse(self.refused("b", 2, "door y\n  fail\ndoor x\n  fail", system))

    def test_doors_in_pacts(self):
        self.assertTrue(self.refused("shop", 2, "door get\n  fail"))
        self.assertTrue(self.refused("shop", 2, "door fill\n  fail"))
        self.assertFalse(self.refused("shop", 2, "door fill\n  fail\ndoor other\n  fail\ndoor get\n  fail"))
        self.assertTrue(self.refused("till", 2, "port shop\ndoor paid\n  fail"))
        self.assertFalse(self.refused("till", 2, "port shop\ndoor pay\n  fail"))
        rows = ["worths 2", "part a", "  port p", "  door x", "    fail"] + one_part("b")
        rows += ["wire a p b", "  state 0", "  state 1", "    x 0 -> 0 0"] + outer("a")
        self.assertTrue(self.refused("b", 2, "door y\n  fail", system_of(rows)))
        rows = ["worths 2"] + one_part("b") + ["outer b", "  state 0", "  state 1", "    x 0 -> 0 0"]
        self.assertTrue(self.refused("b", 2, "door y\n  fail", system_of(rows)))

    def test_doors_that_it_asks(self):
        self.assertTrue(self.refused("till", 2, "port shop\ndoor pay\n  ask shop pay 0"))
        self.assertTrue(self.refused("till", 2, "port shop\ndoor pay\n  fail\n  if lost\n    ask shop sell 0"))
        self.assertFalse(self.refused("till", 2, "port shop\ndoor pay\n  ask shop fill 0\n  ask shop get 0"))
        ring = system_of(ROWS)
        self.assertTrue(self.refused("a", 2, "port p\nport q\ndoor go\n  ask q go 0", ring))
        self.assertFalse(self.refused("a", 2, "port p\nport q\ndoor go\n  ask q come 0", ring))

    def test_parts_and_wires_as_they_stood(self):
        for mixed in permutations((AP, AQ, BP)):
            rows = ["worths 2"] + A + B + mixed[0] + mixed[1] + mixed[2] + OUTB + OUT
            system = system_of(rows)
            text = system.with_part("b", system.part("b")).text
            heads = [row for row in text.split("\n") if not row.startswith(" ")]
            self.assertEqual(heads, [row for row in rows if not row.startswith(" ")])
            self.assertEqual(text, system.with_pact(("a", "p"), system.pact(("a", "p"))).text)


class WithPact(unittest.TestCase):
    system = System(TEXT)
    once = read_pact(2, "state 0\n  get 0 -> 0 1\n  get 1 -> 1 1\nstate 1\n  get any -> lost 1")

    def test_another_pact(self):
        changed = self.system.with_pact(("till", "shop"), self.once)
        self.assertEqual(changed.pact(("till", "shop")), self.once)
        self.assertEqual(changed.pact(("", "till")), self.system.pact(("", "till")))
        self.assertEqual(changed.pact(("", "shop")), self.system.pact(("", "shop")))
        self.assertEqual([changed.part("till"), changed.part("shop")], [Part(2, TILL), Part(2, SHOP)])
        lines = ["  " + row for row in show_pact(self.once).split("\n")]
        elder = ["  state 0", "    get 0 -> 0 0, 1 0, lost 0", "    get 1 -> 0 0, 1 0, lost 0"]
        self.assertEqual(changed.text, SHOWN.replace("\n".join(elder), "\n".join(lines)))
        self.assertEqual(changed, System(changed.text))
        self.assertFalse(changed == self.system)

    def test_of_an_outer_wire(self):
        pact = ((("fill", 0, ((-1, 1),)), ("get", 1, ((1, 0),))), ())
        changed = self.system.with_pact(pact=pact, wire=("", "shop"))
        self.assertEqual(changed.pact(("", "shop")), pact)
        self.assertEqual(changed.offerer(("", "shop")), "shop")
        self.assertEqual(changed, System(changed.text))

    def test_one_without_rows(self):
        for wire_of in self.system.wires:
            self.assertEqual(self.system.with_pact(wire_of, ((),)).pact(wire_of), ((),))

    def test_no_wire(self):
        for value in ("till", ("shop", "till"), ("", "pay"), ["till", "shop"], ("till",)) + ODD_VALUES:
            for pact in (FREE, None):
                self.assertEqual(exactly(told(lambda: self.system.with_pact(value, pact))), exactly(("NoWire", value)))

    def test_no_pact(self):
        for value in WRONG_PACTS:
            self.assertEqual(exactly(told(lambda: self.system.with_pact(("till", "shop"), value))),
                             exactly(("BadPact", value)))

    def test_worths(self):
        for value in (((("get", 2, ((0, 0),)),),), ((("get", 0, ((2, 0),)),),)):
            self.assertEqual(told(lambda: self.system.with_pact(("till", "shop"), value)), ("BadPact", value))

    def test_doors(self):
        for wire_of, door in ((("till", "shop"), "pay"), (("", "till"), "get"), (("", "till"), "fill"), (("", "shop"), "x")):
            for value in ((((door, 0, ((0, 0),)),),), ((), ((door, 0, ((0, 0),)),))):
                self.assertEqual(told(lambda: self.system.with_pact(wire_of, value)), ("BadPact", value))

    def test_400_states(self):
        self.assertEqual(len(self.system.with_pact(("", "till"), ((),) * 400).pact(("", "till"))), 400)
        value = ((),) * 401
        self.assertEqual(told(lambda: self.system.with_pact(("", "till"), value)), ("BadPact", value))


if __name__ == "__main__":
    unittest.main()
