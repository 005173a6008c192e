import unittest
from itertools import product
from random import Random

from tests import plainly
from tests.helping import ODD_VALUES, exactly, told
from tests.test_systems import TEXT
from truestandins.errors import WireError
from truestandins.keeping import keeps, shows_keeps
from truestandins.pacttexts import read_pact
from truestandins.parts import Part
from truestandins.systems import System

SYSTEM = System(TEXT)
TIGHT = SYSTEM.with_pact(("till", "shop"), read_pact(2, "state 0\n  get 0 -> 0 0\n  get 1 -> 1 0"))
RING = System(
    "worths 2\npart a\n  port q\n  door go\n    ask q come 0\n    answer got\npart b\n  port p\n  door come\n"
    "    ask p go 0\n    if busy\n      answer 1\nwire a q b\n  state 0\n    come 0 -> any 0\nwire b p a\n  state 0\n"
    "    go 0 -> any 0, busy 0\nouter a\n  state 0\n    go 0 -> any 0")
PAY, GET = ("", "till"), ("till", "shop")
GO, COME, BACK = ("", "a"), ("a", "q"), ("b", "p")


def closed_with(system, name, *more):
    """The table of all scenes that come from the first one and from these."""
    scenes, events = plainly.kept_or_broken(system, name, more)
    return ("keeps", tuple(sorted(scenes))) if events is None else None


def chain(parts, wires, outers, worths=2):
    """A system of parts with the one door x, which asks over each of its ports and answers 0; all is let."""
    rows = [f"worths {worths}"]
    for name in parts:
        ports = [wire[1] for wire in wires if wire[0] == name]
        rows += [f"part {name}"] + [f"  port {port}" for port in ports] + ["  door x"]
        rows += [f"    ask {port} x 0" for port in ports] + ["    answer 0"]
    for wire in wires:
        rows += ["wire " + " ".join(wire), "  state 0", "    x 0 -> 0 0, lost 0, busy 0"]
    for name in outers:
        rows += ["outer " + name, "  state 0", "    x 0 -> 0 0"]
    return System("\n".join(rows))


def amid(system, name):
    """All (user of the open call, part asked, user of the call amid) in the table of a part."""
    word, table = keeps(system, name)
    assert word == "keeps"
    return sorted(set((opens[0][0][0], system.offerer(asked[0]), opens[1][0][0])
                      for _, opens, asked, _, _ in table if len(opens) == 2))


class Examples(unittest.TestCase):
    def test_as_they_stand(self):
        self.assertEqual([keeps(SYSTEM, "till")[0], len(keeps(SYSTEM, "till")[1]), len(keeps(SYSTEM, "shop")[1])],
                         ["keeps", 11, 8])
        self.assertEqual([keeps(TIGHT, "till")[0], keeps(TIGHT, "shop")[0], len(keeps(TIGHT, "shop")[1]),
                          keeps(TIGHT, "shop")[1][-1]], ["keeps", "breaks", 4, (("till", "shop"), "answer", -1)])


class Tables(unittest.TestCase):
    def test_of_the_till(self):
        still, states = ((), ()), (0, 0)
        scenes = [(still, (), (), (), states)]
        for worth in (0, 1):
            waits, opens = ((), (2, worth)), ((PAY, "pay", worth),)
            scenes.append((still, opens, (), ("call",), states))
            scenes.append((waits, opens, (GET, "get", worth), (), states))
            scenes += [(waits, opens, (), ("answer", answer), states) for answer in (-1, 0, 1)]
        self.assertEqual(keeps(SYSTEM, "till"), ("keeps", tuple(sorted(scenes))))

    def test_of_the_shop(self):
        scenes = []
        for has in (0, 1):
            inner = ((has,), ())
            scenes.append((inner, (), (), (), (0, 0)))
            for call in ((("", "shop"), "fill", 0), (GET, "get", 0), (GET, "get", 1)):
                scenes.append((inner, (call,), (), ("call",), (0, 0)))
        self.assertEqual(keeps(SYSTEM, "shop"), ("keeps", tuple(sorted(scenes))))

    def test_of_a_ring_with_calls_amid(self):
        still, waits, states = ((), ()), ((), (2, 0)), (0, 0, 0)
        outside, ring, ask = (GO, "go", 0), (BACK, "go", 0), (COME, "come", 0)
        scenes = [(still, (), (), (), states), (still, (outside,), (), ("call",), states),
                  (still, (ring,), (), ("call",), states), (waits, (outside, ring), ask, ("call",), states)]
        for call in (outside, ring):
            scenes.append((waits, (call,), ask, (), states))
            scenes += [(waits, (call,), (), ("answer", answer), states) for answer in (0, 1)]
        self.assertEqual(keeps(RING, "a"), ("keeps", tuple(sorted(scenes))))

    def test_of_the_other_part_of_the_ring(self):
        still, waits, states = ((), ()), ((), (2, 0)), (0, 0)
        call = (COME, "come", 0)
        scenes = [(still, (), (), (), states), (still, (call,), (), ("call",), states),
                  (waits, (call,), (BACK, "go", 0), (), states)]
        scenes += [(waits, (call,), (), ("answer", answer), states) for answer in (-2, 0, 1)]
        self.assertEqual(keeps(RING, "b"), ("keeps", tuple(sorted(scenes))))

    def test_states_move_with_answers_alone(self):
        pact = read_pact(2, "state 0\n  get 0 -> 0 1\n  get 1 -> 1 0\nstate 1\n  get 1 -> lost 0\n  get 0 -> 0 1")
        system = SYSTEM.with_pact(GET, pact).with_pact(PAY, read_pact(2, "state 0\n  pay 0 -> 0 0\n  pay 1 -> any 0, lost 0"))
        table = keeps(system, "till")[1]
        self.assertEqual(keeps(system, "till")[0], "keeps")
        for inner, opens, asked, coming, states in table:
            if coming == ("answer", -1):
                self.assertEqual(states, (0, 0))
        self.assertIn((((), (2, 0)), ((PAY, "pay", 0),), (GET, "get", 0), (), (0, 0)), table)
        self.assertIn((((), (2, 0)), ((PAY, "pay", 0),), (), ("answer", 0), (0, 1)), table)
        self.assertNotIn((((), (2, 0)), ((PAY, "pay", 0),), (GET, "get", 0), (), (0, 2)), table)
        self.assertEqual(set(table), plainly.kept_or_broken(system, "till")[0])

    def test_with_draws(self):
        part = Part(2, "cell has 1\ndoor get\n  draw has\n  if has = 0\n    fail\n  answer it\ndoor fill\n  draw has")
        system = SYSTEM.with_part("shop", part)
        self.assertEqual(len(keeps(system, "shop")[1]), 8)
        wider = SYSTEM.with_pact(("", "shop"), read_pact(2, "state 0\n  fill 0 -> 0 1\nstate 1\n  fill 0 -> 0 1"))
        inners = sorted(set((scene[0], scene[4]) for scene in keeps(wider.with_part("shop", part), "shop")[1]))
        self.assertEqual(inners, [(((has,), ()), (state, 0)) for has in (0, 1) for state in (0, 1)])

    def test_a_part_that_is_never_called(self):
        system = SYSTEM.with_pact(PAY, ((),))
        self.assertEqual(keeps(system, "till"), ("keeps", ((((), ()), (), (), (), (0, 0)),)))

    def test_wires_of_the_part_alone(self):
        system = chain("abc", [("a", "p", "b"), ("b", "p", "c")], "ac")
        for name, many in (("a", 2), ("b", 2), ("c", 2)):
            for scene in keeps(system, name)[1]:
                self.assertEqual(len(scene[4]), many)

    def test_they_ascend(self):
        for system, name in ((SYSTEM, "till"), (SYSTEM, "shop"), (RING, "a"), (RING, "b")):
            table = keeps(system, name)[1]
            self.assertIsInstance(table, tuple)
            self.assertEqual(table, tuple(sorted(set(table))))

    def test_arguments_stay(self):
        system = System(TEXT)
        self.assertEqual(keeps(system, "shop"), keeps(system, "shop"))
        self.assertEqual([system, system.text], [System(TEXT), TEXT])


class CallsAmid(unittest.TestCase):
    def test_the_outside_calls_nobody_amid(self):
        system = chain("ab", [("a", "p", "b")], "ab")
        self.assertEqual([amid(system, "a"), amid(system, "b")], [[], []])

    def test_the_part_that_was_asked_calls_back(self):
        system = chain("ab", [("a", "p", "b"), ("b", "p", "a")], "a")
        self.assertEqual(amid(system, "a"), [("", "b", "b")])

    def test_not_the_user_of_the_open_call(self):
        system = chain("ab", [("a", "p", "b"), ("b", "p", "a")], "a")
        self.assertEqual(amid(system, "b"), [])
        self.assertNotIn(("b", "b", "b"), amid(system, "a"))

    def test_parts_that_are_reached(self):
        system = chain("abc", [("a", "p", "b"), ("b", "p", "c"), ("c", "p", "a")], "a")
        self.assertEqual(amid(system, "a"), [("", "b", "c")])
        self.assertEqual(amid(system, "b"), [])
        self.assertEqual(amid(system, "c"), [])

    def test_parts_that_are_reached_over_others(self):
        system = chain("abcd", [("a", "p", "b"), ("b", "p", "c"), ("c", "p", "d"), ("d", "p", "a")], "ab")
        self.assertEqual(amid(system, "a"), [("", "b", "d")])
        self.assertEqual(amid(system, "b"), [("", "c", "a")])

    def test_not_by_wires_that_begin_at_the_user_of_the_open_call(self):
        # b asks a, which asks c; c asks b alone, whose wire to a does not count; d would call a, but b alone asks d.
        system = chain("abcd", [("b", "p", "a"), ("a", "p", "c"), ("c", "p", "b"), ("b", "q", "d"), ("d", "p", "a")], "b")
        self.assertEqual(amid(system, "a"), [("d", "c", "b")])
        system = chain("abcd", [("b", "p", "a"), ("a", "p", "c"), ("c", "p", "d"), ("d", "p", "a")], "bc")
        self.assertEqual(amid(system, "a"), [("b", "c", "d")])

    def test_not_by_wires_that_begin_at_the_part(self):
        # a asks b over p and c over q; b asks nobody, so c cannot call a while b is asked.
        system = chain("abc", [("a", "p", "b"), ("a", "q", "c"), ("c", "p", "a")], "ab")
        self.assertEqual(amid(system, "a"), [("", "c", "c")])

    def test_of_several_ports(self):
        system = chain("abc", [("a", "p", "b"), ("a", "q", "c"), ("b", "p", "a"), ("c", "p", "b")], "a")
        self.assertEqual(amid(system, "a"), [("", "b", "b"), ("", "c", "b"), ("b", "c", "b")][:2])

    def test_all_systems_of_three_parts(self):
        names = "abc"
        others = {name: [other for other in names if other != name] for name in names}
        choices = [[()] + [(one,) for one in others[name]] + [tuple(others[name])] for name in names]
        for picks in product(*choices):
            wires = [(name, port, other) for name, pick in zip(names, picks) for port, other in zip("pq", pick)]
            if len(wires) > 5:
                continue
            for outers in ("a", "b", "c"):
                system = chain(names, wires, outers)
                for name in names:
                    scenes, events = plainly.kept_or_broken(system, name)
                    found = keeps(system, name)
                    if events is None:
                        self.assertEqual(found, ("keeps", tuple(sorted(scenes))))
                    else:
                        self.assertEqual([found[0], len(found[1])], ["breaks", events])
                    self.assertIs(shows_keeps(system, name, found), True)

    def test_a_call_amid_that_the_pact_does_not_let(self):
        system = RING.with_pact(BACK, ((),))
        self.assertEqual(amid(system, "a"), [])
        self.assertEqual(keeps(system, "b"), ("breaks", ((COME, "call", "come", 0), (BACK, "call", "go", 0))))

    def test_a_busy_that_the_pact_does_not_let(self):
        system = RING.with_pact(BACK, read_pact(2, "state 0\n  go 0 -> any 0"))
        run = ((GO, "call", "go", 0), (COME, "call", "come", 0), (BACK, "call", "go", 0), (BACK, "answer", -2))
        self.assertEqual(keeps(system, "a"), ("breaks", run))

    def test_busy_moves_the_state(self):
        system = RING.with_pact(BACK, read_pact(2, "state 0\n  go 0 -> busy 1, any 0\nstate 1"))
        table = keeps(system, "a")[1]
        self.assertIn((((), (2, 0)), ((GO, "go", 0),), (COME, "come", 0), (), (0, 0, 1)), table)
        self.assertEqual(set(table), plainly.kept_or_broken(system, "a")[0])


class Runs(unittest.TestCase):
    def test_an_ask_that_is_not_let(self):
        system = SYSTEM.with_pact(GET, read_pact(2, "state 0\n  get 0 -> 0 0"))
        self.assertEqual(keeps(system, "till"), ("breaks", ((PAY, "call", "pay", 1), (GET, "call", "get", 1))))

    def test_an_answer_that_is_not_let(self):
        system = SYSTEM.with_pact(("", "shop"), read_pact(2, "state 0\n  fill 0 -> 1 0"))
        run = ((("", "shop"), "call", "fill", 0), (("", "shop"), "answer", 0))
        self.assertEqual(keeps(system, "shop"), ("breaks", run))

    def test_of_fewest_events(self):
        for run in (keeps(TIGHT, "shop")[1],):
            self.assertEqual([event[1] for event in run], ["call", "answer", "call", "answer"])
            self.assertTrue(plainly.is_fault_run(TIGHT, "shop", run))
        pact = read_pact(2, "state 0\n  get 0 -> 0 1\n  get 1 -> any 0\nstate 1\n  get 0 -> 0 1")
        system = SYSTEM.with_pact(GET, pact).with_part("shop", Part(2, "door get\n  answer 0\ndoor fill\n  answer 0"))
        self.assertEqual(keeps(system, "shop")[0], "keeps")
        narrow = system.with_pact(PAY, read_pact(2, "state 0\n  pay any -> 0 0"))
        found = keeps(narrow, "till")
        self.assertEqual([found[0], len(found[1])], ["breaks", 4])
        self.assertTrue(plainly.is_fault_run(narrow, "till", found[1]))

    def test_lost_and_busy_that_are_answered(self):
        text = TEXT.replace("any 0, lost 0\nouter", "any 0, lost 0, busy 0\nouter")
        system = System(text).with_pact(PAY, read_pact(2, "state 0\n  pay 0 -> any 0, lost 0\n  pay 1 -> 1 0, lost 0"))
        found = keeps(system, "till")
        self.assertEqual([found[0], len(found[1])], ["breaks", 4])
        self.assertIn(found[1][2], ((GET, "answer", -2), (GET, "answer", 0)))
        alone = system.with_pact(GET, read_pact(2, "state 0\n  get any -> busy 0"))
        self.assertEqual(keeps(alone, "till"), ("breaks", (
            (PAY, "call", "pay", 1), (GET, "call", "get", 1), (GET, "answer", -2), (PAY, "answer", 0))))
        lost = system.with_pact(GET, read_pact(2, "state 0\n  get any -> lost 0"))
        self.assertEqual(keeps(lost, "till")[0], "keeps")

    def test_by_a_draw(self):
        part = Part(2, "cell has 1\ndoor get\n  draw has\n  if has = 0\n    fail\n  answer it\ndoor fill\n  fail")
        system = TIGHT.with_part("shop", part).with_pact(("", "shop"), ((),))
        found = keeps(system, "shop")
        self.assertEqual([found[0], len(found[1]), found[1][-1]], ["breaks", 2, (GET, "answer", -1)])

    def test_a_run_in_which_draws_come_to_bear_later(self):
        text = ("worths 2\npart a\n  cell n 0\n  door set\n    draw n\n  door told\n    answer n\n"
                "outer a\n  state 0\n    set 0 -> 0 1\n  state 1\n    told 0 -> 0 1")
        found = keeps(System(text), "a")
        wire = ("", "a")
        self.assertEqual(found, ("breaks", ((wire, "call", "set", 0), (wire, "answer", 0), (wire, "call", "told", 0),
                                            (wire, "answer", 1))))

    def test_many_systems(self):
        random = Random(3)
        words = {"keeps": 0, "breaks": 0}
        for _ in range(150):
            system = some_system(random)
            for name in system.parts:
                found = keeps(system, name)
                words[found[0]] += 1
                scenes, events = plainly.kept_or_broken(system, name)
                if events is None:
                    self.assertEqual(found, ("keeps", tuple(sorted(scenes))))
                else:
                    self.assertEqual([found[0], len(found[1])], ["breaks", events])
                    self.assertTrue(plainly.is_fault_run(system, name, found[1]))
                self.assertIs(shows_keeps(system, name, found), True)
        self.assertGreater(words["keeps"], 50)
        self.assertGreater(words["breaks"], 50)


def some_rows(random, depth, port, doors):
    """Statements, by chance."""
    rows = []
    for _ in range(random.randrange(1, 4)):
        word = random.choice(("ask", "ask", "answer", "fail", "draw", "add", "if", "while"))
        if word in ("ask", "while") and not port or depth == 3 and word in ("if", "while"):
            word = "draw"
        if word == "ask":
            rows.append(f"ask {port} {random.choice(doors)} {random.choice(('it', 'n', '0', 'got'))}")
        elif word == "if":
            rows.append("if " + random.choice(("lost", "busy", "n = it", "got != 0")))
            rows += ["  " + row for row in some_rows(random, depth + 1, port, doors)]
        elif word == "while":
            rows += ["while " + random.choice(("lost", "n = it")), f"  ask {port} {random.choice(doors)} it"]
        else:
            rows.append({"answer": "answer " + random.choice(("it", "n", "got")), "fail": "fail", "draw": "draw n",
                         "add": "add n " + random.choice(("1", "it"))}[word])
    return rows


def some_rows_of_a_pact(random, doors):
    many = random.randrange(1, 3)
    rows = []
    for state in range(many):
        rows.append(f"  state {state}")
        for door in doors:
            if random.randrange(4):
                answers = ["any"] + [word for word in ("lost", "busy") if random.randrange(4)]
                told_answers = ", ".join(f"{word} {random.randrange(many)}" for word in answers)
                rows.append(f"    {door} {random.choice(('any', 'any', '0'))} -> {told_answers}")
    return rows


def some_system(random):
    """Two or three parts in a ring, by chance."""
    names = "abc"[:random.randrange(2, 4)]
    rows = ["worths 2"]
    for name in names:
        port = "p" if name != names[-1] or random.randrange(2) else ""
        rows += [f"part {name}", "  cell n 0"] + (["  port p"] if port else [])
        for door in ("x", "y"):
            rows += [f"  door {door}"] + ["    " + row for row in some_rows(random, 1, port, ("x", "y"))]
    for at, name in enumerate(names):
        if f"part {name}\n  cell n 0\n  port p" in "\n".join(rows):
            rows += [f"wire {name} p {names[(at + 1) % len(names)]}"] + some_rows_of_a_pact(random, ("x", "y"))
    rows += ["outer a"] + some_rows_of_a_pact(random, ("x", "y"))
    return System("\n".join(rows))


class Names(unittest.TestCase):
    def test_of_parts_that_there_are_not(self):
        for value in ("pay", "", ("", "till"), "Till") + ODD_VALUES:
            self.assertEqual(exactly(told(lambda: keeps(SYSTEM, value))), exactly(("NoPart", value)))
            for shown in (keeps(SYSTEM, "till"), None):
                self.assertEqual(exactly(told(lambda: shows_keeps(SYSTEM, value, shown))), exactly(("NoPart", value)))

    def test_arguments_by_name(self):
        self.assertEqual(keeps(name="till", system=SYSTEM), keeps(SYSTEM, "till"))
        self.assertIs(shows_keeps(value=keeps(SYSTEM, "till"), name="till", system=SYSTEM), True)


class ShowsTables(unittest.TestCase):
    cases = ((SYSTEM, "till"), (SYSTEM, "shop"), (TIGHT, "till"), (RING, "a"), (RING, "b"))

    def no(self, system, name, value):
        self.assertIs(shows_keeps(system, name, value), False)

    def test_what_keeps_tells(self):
        for system, name in self.cases:
            self.assertIs(shows_keeps(system, name, keeps(system, name)), True)

    def test_any_value(self):
        for system, name in self.cases:
            table = keeps(system, name)[1]
            for value in ODD_VALUES:
                self.no(system, name, value)
                self.no(system, name, ("keeps", value))
                self.no(system, name, ("breaks", value))
                self.no(system, name, (value, table))
                self.no(system, name, ("keeps", (value,)))
                self.no(system, name, ("keeps", table + (value,)))
                self.no(system, name, ("keeps", (value,) + table))
                self.no(system, name, ("keeps", table, value))
            for value in (["keeps", table], ("keeps", list(table)), ("kept", table), ("breaks", table), ("keeps",), table,
                          ("Keeps", table), {"keeps": table}, ("keeps", tuple([list(scene) for scene in table]))):
                self.no(system, name, value)

    def test_any_value_in_each_place_of_a_scene(self):
        for system, name in self.cases[:4]:
            table = keeps(system, name)[1]
            for at, scene in enumerate(table):
                for place in range(5):
                    for value in ODD_VALUES:
                        other = scene[:place] + (value,) + scene[place + 1:]
                        if exactly(other) != exactly(scene):
                            self.no(system, name, ("keeps", table[:at] + (other,) + table[at + 1:]))

    def test_a_scene_that_is_left_out(self):
        for system, name in self.cases:
            table = keeps(system, name)[1]
            for at in range(len(table)):
                self.no(system, name, ("keeps", table[:at] + table[at + 1:]))
            self.no(system, name, ("keeps", ()))

    def test_a_scene_that_stands_twice(self):
        for system, name in self.cases:
            table = keeps(system, name)[1]
            for at in range(len(table)):
                self.no(system, name, ("keeps", table[:at] + (table[at],) + table[at:]))

    def test_out_of_sequence(self):
        for system, name in self.cases:
            table = keeps(system, name)[1]
            for at in range(len(table) - 1):
                self.no(system, name, ("keeps", table[:at] + (table[at + 1], table[at]) + table[at + 2:]))
            self.no(system, name, ("keeps", table[::-1]))

    def test_a_truth_in_the_place_of_a_number(self):
        for system, name in self.cases:
            table = keeps(system, name)[1]
            swapped = 0
            for other in with_truths(table):
                self.assertEqual(other, table)
                self.no(system, name, ("keeps", other))
                swapped += 1
            self.assertGreater(swapped, len(table))

    def test_of_another_part(self):
        self.no(SYSTEM, "till", keeps(SYSTEM, "shop"))
        self.no(SYSTEM, "shop", keeps(SYSTEM, "till"))
        self.no(RING, "a", keeps(RING, "b"))
        self.no(RING, "b", keeps(RING, "a"))
        self.no(SYSTEM, "till", keeps(TIGHT, "till"))
        # Beside the pact that lets fewer answers the table is a greater closed one.
        self.assertIs(shows_keeps(TIGHT, "till", keeps(SYSTEM, "till")), True)

    def test_where_the_part_breaks(self):
        table = keeps(SYSTEM, "shop")[1]
        self.no(TIGHT, "shop", ("keeps", table))
        scenes = plainly.kept_or_broken(TIGHT, "shop")[0]
        self.no(TIGHT, "shop", ("keeps", tuple(sorted(scenes))))
        broken = RING.with_pact(BACK, read_pact(2, "state 0\n  go 0 -> any 0"))
        self.no(broken, "a", ("keeps", keeps(RING, "a")[1]))

    def test_greater_closed_tables(self):
        unreached = SYSTEM.with_pact(("", "shop"), ((),)).with_part(
            "shop", Part(2, "cell has 0\ndoor get\n  if has = 0\n    fail\n  set has 0\n  answer it\ndoor fill\n  set has 1"))
        small = keeps(unreached, "shop")
        self.assertEqual(len(small[1]), 3)
        greater = closed_with(unreached, "shop", (((1,), ()), (), (), (), (0, 0)))
        self.assertEqual(len(greater[1]), 6)
        self.assertIs(shows_keeps(unreached, "shop", greater), True)
        for at in range(len(greater[1])):
            rest = greater[1][:at] + greater[1][at + 1:]
            # The two that nothing leads to may be left out, and what comes from one alone with it.
            closed = set(rest) == plainly.kept_or_broken(unreached, "shop", rest)[0]
            first = plainly.first_scene(unreached, "shop") in rest
            self.assertIs(shows_keeps(unreached, "shop", ("keeps", rest)), closed and first)

    def test_it_needs_the_first_scene(self):
        part = Part(2, "cell has 0\ndoor get\n  set has 1\n  answer it\ndoor fill\n  set has 1")
        system = SYSTEM.with_part("shop", part)
        table = keeps(system, "shop")[1]
        later = tuple(scene for scene in table if scene[0] == ((1,), ()))
        self.assertEqual(len(later), 4)
        self.no(system, "shop", ("keeps", later))

    def test_every_scene_by_its_form(self):
        lets = "any 0, lost 0, busy 0"
        system = System(
            "worths 2\npart a\n  port p\n  port q\n  door x\n    ask p x 0\n    ask q y 0\n"
            "part b\n  port p\n  door x\n    ask p x it\n    answer 0\n  door y\n    fail\n"
            f"wire a p b\n  state 0\n    x 0 -> {lets}\nwire a q b\n  state 0\n    y 0 -> lost 1, busy 0\n  state 1\n"
            "    y 0 -> any 1, lost 1, busy 1\n    x 0 -> any 1, lost 1, busy 1\n"
            f"wire b p a\n  state 0\n    x 0 -> {lets}\nouter b\n  state 0\n    x 0 -> {lets}")
        opens = [(("", "b"), "x", 0), (("a", "q"), "y", 0), (("a", "p"), "x", 0), (("a", "p"), "y", 1),
                 (("a", "p"), "z", 0), (("a", "p"), "x", 2), (("b", "p"), "x", 0), (("a", "b"), "x", 0)]
        opens = [()] + [(call,) for call in opens] + list(product(opens[:4], repeat=2)) + [tuple(opens[:3])]
        asks = [(), (("b", "p"), "x", 0), (("b", "p"), "x", 1), (("b", "p"), "y", 0), (("b", "q"), "x", 0),
                (("a", "p"), "x", 0), (("b", "p"), "x", 2), (("b", "p"), "x", -1)]
        comings = [(), ("call",), ("answer", 0), ("answer", -2), ("answer", 2), ("answer", -3), ("answer",),
                   ("call", 0), ("asks",), ("gives", 0), ("answer", 0, 0)]
        least = plainly.kept_or_broken(system, "b")
        self.assertIsNone(least[1])
        opens += [(opens[2][0], opens[3][0], opens[1][0]), (opens[2][0], opens[3][0], opens[2][0], opens[3][0])]
        found = {True: 0, False: 0}
        places = product([((), ()), ((), (2, 0)), ((), (2, 1))], opens, asks, comings, [(0, 0, 0, 0), (0, 0, 1, 0)])
        for scene in places:
            right = plainly.is_scene(system, "b", scene)
            tables = [least[0] | {scene}]
            try:
                scenes, events = plainly.kept_or_broken(system, "b", [scene])
                tables.append(scenes)
            except (WireError, LookupError, ValueError, TypeError):
                self.assertFalse(right)
            wanted = right and events is None
            found[wanted] += right
            self.assertIs(shows_keeps(system, "b", ("keeps", tuple(sorted(tables[-1])))), wanted, scene)
            if not right:
                self.assertIs(shows_keeps(system, "b", ("keeps", tuple(sorted(tables[0])))), False, scene)
        self.assertGreater(found[True], 30)
        self.assertGreater(found[False], 5)

    def test_states_by_their_form(self):
        for states in ((0,), (0, 0, 0), (0, 1), (1, 0), (0, -1), (-1, 0), ()):
            table = tuple(sorted(keeps(SYSTEM, "till")[1] + ((((), ()), (), (), (), states),)))
            self.no(SYSTEM, "till", ("keeps", table))


def with_truths(value):
    """The tuples that are alike, but for a truth in the place of one number."""
    for at, item in enumerate(value):
        if isinstance(item, tuple):
            changed = list(with_truths(item))
        else:
            changed = [bool(item)] if item in (0, 1) and isinstance(item, int) else []
        for other in changed:
            yield value[:at] + (other,) + value[at + 1:]


class ShowsRuns(unittest.TestCase):
    cases = (
        (TIGHT, "shop"), (SYSTEM.with_pact(GET, read_pact(2, "state 0\n  get 0 -> 0 0")), "till"),
        (RING.with_pact(BACK, read_pact(2, "state 0\n  go 0 -> any 0")), "a"), (RING.with_pact(BACK, ((),)), "b"),
    )

    def no(self, system, name, run):
        self.assertIs(shows_keeps(system, name, ("breaks", run)), False)

    def test_what_keeps_tells(self):
        for system, name in self.cases:
            self.assertIs(shows_keeps(system, name, keeps(system, name)), True)

    def test_longer_runs(self):
        get, lost = (GET, "call", "get", 1), (GET, "answer", -1)
        fill = ((("", "shop"), "call", "fill", 0), (("", "shop"), "answer", 0))
        good = (get, (GET, "answer", 1))
        for run in (good + (get, lost), fill + good + (get, lost), good + fill + good + (get, lost),
                    fill * 3 + (good + fill) * 5 + good + (get, lost), (good + fill) * 300 + good + (get, lost)):
            self.assertIs(shows_keeps(TIGHT, "shop", ("breaks", run)), True)
            self.assertIs(shows_keeps(SYSTEM, "shop", ("breaks", run)), False)

    def test_runs_that_are_not_right(self):
        get, lost = (GET, "call", "get", 1), (GET, "answer", -1)
        fill = ((("", "shop"), "call", "fill", 0), (("", "shop"), "answer", 0))
        good = (get, (GET, "answer", 1))
        for run in ((), good, good + (get,), (get, lost), good + (get, lost, get), good + (get, lost, lost), (lost,),
                    good + fill + (get, lost), (get, get), good + (get, (GET, "answer", 0)), fill, fill[:1],
                    good + (get, (GET, "answer", -2)), good + ((GET, "call", "fill", 0), lost),
                    good + ((GET, "call", "get", 2), lost), good + (get, (("", "shop"), "answer", -1)),
                    good + ((("", "shop"), "call", "get", 1), lost), good[::-1] + (get, lost)):
            self.no(TIGHT, "shop", run)

    def test_events_of_others_that_are_not_let(self):
        self.no(SYSTEM, "till", ((PAY, "call", "pay", 2),))
        self.no(SYSTEM, "till", ((PAY, "call", "paid", 0),))
        self.no(SYSTEM, "till", ((PAY, "call", "pay", 0), (GET, "call", "get", 0), (GET, "answer", -2)))
        self.no(SYSTEM, "till", ((GET, "call", "get", 0),))

    def test_cut_and_changed_runs(self):
        for system, name in self.cases:
            run = keeps(system, name)[1]
            for at in range(len(run)):
                self.no(system, name, run[:at])
                self.no(system, name, run[:at] + run[at + 1:])
                self.no(system, name, run[:at] + (run[at],) + run[at:])
                self.no(system, name, run[:at] + (list(run[at]),) + run[at + 1:])
                self.no(system, name, run[:at] + (run[at] + (0,),) + run[at + 1:])
                self.no(system, name, run[:at] + (run[at][:-1],) + run[at + 1:])
                for value in ODD_VALUES:
                    self.no(system, name, run[:at] + (value,) + run[at + 1:])
                    for place in range(len(run[at])):
                        event = run[at][:place] + (value,) + run[at][place + 1:]
                        if exactly(event) != exactly(run[at]):
                            self.no(system, name, run[:at] + (event,) + run[at + 1:])
            self.no(system, name, list(run))
            self.no(system, name, run + run[:1])
            self.no(system, name, run + run)

    def test_a_truth_in_the_place_of_a_number(self):
        for system, name in self.cases:
            run = keeps(system, name)[1]
            others = list(with_truths(run))
            self.assertTrue(others)
            for other in others:
                self.assertEqual(other, run)
                self.no(system, name, other)

    def test_words(self):
        for system, name in self.cases:
            run = keeps(system, name)[1]
            for value in (("keeps", run), ("broken", run), ["breaks", run], ("breaks", run, ()), ("breaks",), run):
                self.assertIs(shows_keeps(system, name, value), False)

    def test_draws_that_fit_what_came(self):
        text = ("worths 2\npart a\n  cell n 0\n  door set\n    draw n\n    answer 0\n  door told\n    answer n\n"
                "outer a\n  state 0\n    set 0 -> 0 0\n    told 0 -> 0 1\n  state 1\n    told 0 -> 0 1\n    set 0 -> 0 0")
        system, wire = System(text), ("", "a")
        draw = ((wire, "call", "set", 0), (wire, "answer", 0))
        zero = ((wire, "call", "told", 0), (wire, "answer", 0))
        one = ((wire, "call", "told", 0), (wire, "answer", 1))
        for run, right in ((draw + one, True), (one, False), (zero + one, False), (draw + zero + one, False),
                           (draw + zero + draw + one, True), (draw + draw + one, True), (draw + one + one, False)):
            self.assertIs(shows_keeps(system, "a", ("breaks", run)), right, run)


def calls_in(rows, broken=None):
    """A part that answers 0, beside an outer pact: a ring of states, of each the number of its rows.

    The first call of the state that is told as broken is let with another answer alone.
    """
    doors = "".join(f"  door {door}\n    answer 0\n" for door in "abc")
    states = []
    for state, many in enumerate(rows):
        states.append(f"  state {state}")
        for at, (door, worth) in enumerate(list(product("abc", range(4)))[:many]):
            answer = 1 if (state, at) == (broken, 0) else 0
            states.append(f"    {door} {worth} -> {answer} {(state + 1) % len(rows)}")
    return System("worths 4\npart a\n" + doors + "outer a\n" + "\n".join(states))


def scenes_of(rows):
    """All scenes of the part of calls_in."""
    inner, wire = ((), ()), ("", "a")
    scenes = []
    for state, many in enumerate(rows):
        scenes.append((inner, (), (), (), (state,)))
        for door, worth in list(product("abc", range(4)))[:many]:
            scenes.append((inner, ((wire, door, worth),), (), ("call",), (state,)))
    return tuple(sorted(scenes))


class TooManyScenes(unittest.TestCase):
    full = [9] * 400
    one_more = [10] + [9] * 399

    def test_4000_scenes_and_4001(self):
        self.assertEqual(len(scenes_of(self.full)), 4000)
        self.assertEqual(keeps(calls_in(self.full), "a"), ("keeps", scenes_of(self.full)))
        self.assertEqual(told(lambda: keeps(calls_in(self.one_more), "a")), ("TooMany", 4000))
        self.assertEqual(told(lambda: keeps(calls_in([12] * 400), "a")), ("TooMany", 4000))

    def test_4000_scenes_by_fewer_events_than_the_run_has(self):
        found = keeps(calls_in(self.full, 399), "a")
        self.assertEqual([found[0], len(found[1]), found[1][-1]], ["breaks", 800, (("", "a"), "answer", 0)])
        self.assertEqual(told(lambda: keeps(calls_in(self.one_more, 399), "a")), ("TooMany", 4000))
        self.assertIs(shows_keeps(calls_in(self.one_more, 399), "a", found), True)

    def test_scenes_by_as_many_events_as_the_run_has_do_not_count(self):
        # The run has 798 events; by as many comes the scene at rest in state 399.
        rows = [12, 12, 12, 10] + [9] * 395 + [0]
        self.assertEqual(len(scenes_of(rows[:399])), 4000)
        found = keeps(calls_in(rows, 398), "a")
        self.assertEqual([found[0], len(found[1])], ["breaks", 798])
        rows[3] = 11
        self.assertEqual(told(lambda: keeps(calls_in(rows, 398), "a")), ("TooMany", 4000))

    def test_a_short_run_among_many_scenes(self):
        for broken in (0, 1, 7):
            found = keeps(calls_in([12] * 400, broken), "a")
            self.assertEqual([found[0], len(found[1])], ["breaks", 2 * broken + 2])

    def test_shows_keeps_takes_more(self):
        system = calls_in(self.one_more)
        table = scenes_of(self.one_more)
        self.assertIs(shows_keeps(system, "a", ("keeps", table)), True)
        self.assertIs(shows_keeps(system, "a", ("keeps", table[:-1])), False)
        self.assertIs(shows_keeps(system, "a", ("keeps", table[1:])), False)
        self.assertIs(shows_keeps(calls_in(self.one_more, 200), "a", ("keeps", table)), False)


if __name__ == "__main__":
    unittest.main()
