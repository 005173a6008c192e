import unittest
from itertools import product

from tests import plainwhole
from tests.helping import ODD_VALUES, exactly, told
from tests.manysystems import kept_systems, random_system
from tests.test_keeping import RING, SYSTEM, TIGHT, with_truths
from truestandins.inners import called
from truestandins.keeping import keeps, shows_keeps
from truestandins.pacttexts import read_pact
from truestandins.parts import Part
from truestandins.systems import System
from truestandins.wholes import judged, shows_whole, whole

IDLE = TIGHT.with_pact(("", "till"), read_pact(2, "state 0\n  pay 1 -> 1 1\nstate 1"))
PAY, FILL, GET = ("", "till"), ("", "shop"), ("till", "shop")

# Three parts in a ring; the third one finds the first one busy.
ROUND = System(
    "worths 2\npart a\n  port p\n  door x\n    ask p x it\n    answer got\npart b\n  port p\n  door x\n    ask p x it\n"
    "    answer got\npart c\n  port p\n  door x\n    ask p x it\n    if busy\n      answer 1\n    fail\n"
    "wire a p b\n  state 0\n    x any -> any 0, lost 0, busy 0\nwire b p c\n  state 0\n    x any -> any 0, lost 0\n"
    "wire c p a\n  state 0\n    x any -> any 0, lost 0, busy 0\nouter a\n  state 0\n    x any -> any 0, lost 0\n"
    "outer b\n  state 0\n    x 0 -> any 0, lost 0")


# A ring of two in which all is let, also of the outside that calls the second one.
BUSY_RING = System(
    "worths 2\npart a\n  port p\n  door x\n    ask p x it\n    answer got\npart b\n  port p\n  door x\n    ask p x it\n"
    "    answer got\nwire a p b\n  state 0\n    x any -> any 0, lost 0, busy 0\nwire b p a\n  state 0\n"
    "    x any -> any 0, lost 0, busy 0\nouter a\n  state 0\n    x any -> any 0, lost 0, busy 0\nouter b\n  state 0\n"
    "    x any -> any 0, lost 0, busy 0")


def endless(name, port, other):
    """A part that asks one over its port again and again, and an all-letting wire."""
    part = f"part {name}\n  port {port}\n  door x\n    ask {port} x 0\n    while got = got\n      ask {port} x 0\n"
    return part, f"wire {name} {port} {other}\n  state 0\n    x any -> any 0, lost 0, busy 0\n"


# Nobody in these rings of three, two of which ask for ever, is ever answered for good.
LOOP = [endless("a", "p", "b"), endless("b", "p", "c"), (
    "part c\n  port p\n  door x\n    ask p x it\n    answer got\n", "wire c p a\n  state 0\n    x any -> any 0, lost 0, busy 0\n")]
LOOP = System("worths 2\n" + "".join(part for part, _ in LOOP) + "".join(wire for _, wire in LOOP)
              + "outer a\n  state 0\n    x any -> any 0")


def counter(rows, worths=4):
    """A part that answers 0, beside an outer pact: a ring of states, of each the number of its rows."""
    doors = "".join(f"  door {door}\n    answer 0\n" for door in "abc")
    states = []
    for state, many in enumerate(rows):
        states.append(f"  state {state}")
        for door, worth in list(product("abc", range(worths)))[:many]:
            states.append(f"    {door} {worth} -> 0 {(state + 1) % len(rows)}")
    return System(f"worths {worths}\npart a\n" + doors + "outer a\n" + "\n".join(states))


class Examples(unittest.TestCase):
    def test_as_they_stand(self):
        self.assertEqual([len(whole(SYSTEM)[1]), len(whole(TIGHT)[1]), judged(TIGHT)],
                         [16, 7, (("till", "keeps"), ("shop", "breaks"), ("", "broken"))])
        self.assertEqual(judged(IDLE), (("till", "keeps"), ("shop", "breaks"), ("", "kept")))

    def test_the_ring_that_counts_asks(self):
        self.assertEqual(judged(RING), (("a", "keeps"), ("b", "keeps"), ("", "kept")))
        self.assertEqual(len(whole(RING)[1]), 6)


class Tables(unittest.TestCase):
    def test_of_a_part_that_draws(self):
        system = System("worths 2\npart a\n  cell n 0\n  door x\n    draw n\n    answer n\nouter a\n  state 0\n"
                        "    x 0 -> 0 0, 1 1\n  state 1\n    x 1 -> any 1")
        moments = []
        for cell, state in ((0, 0), (1, 1), (0, 1)):
            moments.append(((((cell,), ()),), (), (), (state,)))
            moments.append(((((cell,), ()),), ((("", "a"), "x", state),), (), (state,)))
        self.assertEqual(whole(system), ("kept", tuple(sorted(moments))))

    def test_of_one_way_through_till_and_shop(self):
        system = SYSTEM.with_pact(PAY, read_pact(2, "state 0\n  pay 1 -> 1 1\nstate 1")).with_pact(FILL, ((),))
        waits, still = ((), (2, 1)), ((), ())
        pay, get = (PAY, "pay", 1), (GET, "get", 1)
        self.assertEqual(whole(system), ("kept", tuple(sorted([
            ((still, ((1,), ())), (), (), (0, 0, 0)),
            ((still, ((1,), ())), (pay,), (), (0, 0, 0)),
            ((waits, ((1,), ())), (pay, get), (), (0, 0, 0)),
            ((waits, ((0,), ())), (pay,), (GET, 1), (0, 0, 0)),
            ((still, ((0,), ())), (), (), (0, 1, 0)),
        ]))))

    def test_of_a_ring_of_two(self):
        go, come, back = (("", "a"), "go", 0), (("a", "q"), "come", 0), (("b", "p"), "go", 0)
        still, a, b = ((), ()), ((), (2, 0)), ((), (2, 0))
        self.assertEqual(whole(RING), ("kept", tuple(sorted([
            ((still, still), (), (), (0, 0, 0)), ((still, still), (go,), (), (0, 0, 0)),
            ((a, still), (go, come), (), (0, 0, 0)), ((a, b), (go, come, back), (), (0, 0, 0)),
            ((a, b), (go, come), (("b", "p"), -2), (0, 0, 0)), ((a, still), (go,), (("a", "q"), 1), (0, 0, 0)),
        ]))))

    def test_of_a_ring_of_three(self):
        word, table = whole(ROUND)
        self.assertEqual(word, "kept")
        stacks = set(tuple(call[0] for call in moment[1]) for moment in table)
        a, b, c = ("a", "p"), ("b", "p"), ("c", "p")
        self.assertEqual(stacks, {(), (("", "a"),), (("", "a"), a), (("", "a"), a, b), (("", "a"), a, b, c),
                                  (("", "b"),), (("", "b"), b), (("", "b"), b, c), (("", "b"), b, c, a)})
        self.assertEqual(set(moment[2] for moment in table if moment[2] and moment[2][1] == -2), {(c, -2), (a, -2)})

    def test_of_many_systems(self):
        words = {"kept": 0, "broken": 0}
        for seed in range(300):
            system = random_system(seed)
            moments, events = plainwhole.kept_or_broken(system)
            found = whole(system)
            words[found[0]] += 1
            if events is None:
                self.assertEqual(found, ("kept", tuple(sorted(moments))), seed)
                self.assertTrue(all(plainwhole.is_moment(system, moment) for moment in moments))
            else:
                self.assertEqual((found[0], len(found[1])), ("broken", events), seed)
                self.assertTrue(plainwhole.is_fault_run(system, found[1]), seed)
            self.assertIs(shows_whole(system, found), True, seed)
        self.assertGreater(min(words.values()), 50)

    def test_the_outside_need_not_call(self):
        system = SYSTEM.with_pact(PAY, ((),)).with_pact(FILL, ((),))
        self.assertEqual(len(whole(system)[1]), 1)

    def test_equal_calls(self):
        self.assertEqual(whole(system=ROUND), whole(ROUND))
        self.assertEqual(judged(system=ROUND), judged(ROUND))
        self.assertIs(shows_whole(system=ROUND, value=whole(ROUND)), True)


class Runs(unittest.TestCase):
    def test_of_the_tight_one(self):
        pays = tuple((PAY, "pay", worth) for worth in (0, 1))
        word, run = whole(TIGHT)
        self.assertEqual(word, "broken")
        self.assertEqual(len(run), 7)
        self.assertEqual(run[-1], (GET, "answer", -1))
        self.assertIn((run[0][0],) + run[0][2:], pays)

    def test_a_call_that_is_not_let(self):
        system = SYSTEM.with_pact(GET, read_pact(2, "state 0\n  get 0 -> any 0, lost 0"))
        self.assertEqual(whole(system), ("broken", ((PAY, "call", "pay", 1), (GET, "call", "get", 1))))

    def test_busy_that_is_not_let(self):
        system = RING.with_pact(("b", "p"), read_pact(2, "state 0\n  go 0 -> any 0"))
        self.assertEqual(whole(system), ("broken", (
            (("", "a"), "call", "go", 0), (("a", "q"), "call", "come", 0), (("b", "p"), "call", "go", 0),
            (("b", "p"), "answer", -2))))


class Judged(unittest.TestCase):
    def test_many_systems(self):
        words = set()
        for seed in range(300, 500):
            system = random_system(seed)
            found = judged(system)
            wanted = tuple((name, keeps(system, name)[0]) for name in system.parts) + (("", whole(system)[0]),)
            self.assertEqual(found, wanted)
            words.add((tuple(sorted(set(word for _, word in found[:-1]))), found[-1][1]))
        self.assertIn((("breaks", "keeps"), "kept"), words)
        self.assertIn((("breaks", "keeps"), "broken"), words)
        self.assertIn((("keeps",), "kept"), words)
        self.assertNotIn((("keeps",), "broken"), words)

    def test_too_many(self):
        self.assertEqual(told(lambda: judged(counter([10] + [9] * 399))), ("TooMany", 4000))
        self.assertEqual(judged(counter([9] * 400)), (("a", "keeps"), ("", "kept")))


class Ring(unittest.TestCase):
    """Guarantee (a)."""

    def test_where_each_part_keeps(self):
        shapes = set()
        for system in kept_systems(150):
            word, table = whole(system)
            self.assertEqual(word, "kept")
            shapes.add((len(system.parts), len(system.wires)))
            scenes = {name: set(keeps(system, name)[1]) for name in system.parts}
            for moment in table:
                for name in system.parts:
                    self.assertIn(scene_of(system, name, moment), scenes[name])
        self.assertGreater(len(shapes), 5)


def scene_of(system, name, moment):
    """What a part has at a moment of the whole."""
    inners, stack, given, states = moment
    wires = [wire for wire in system.wires if name in (wire[0], system.offerer(wire))]
    opens = tuple(call for call in stack if system.offerer(call[0]) == name)
    asked = tuple(call for call in stack if call[0][0] == name)
    coming = ()
    if stack and not given and system.offerer(stack[-1][0]) == name:
        coming = ("call",)
    if given and given[0][0] == name:
        coming = ("answer", given[1])
    return (inners[system.parts.index(name)], opens, asked[0] if asked else (), coming,
            tuple(states[system.wires.index(wire)] for wire in wires))


class ShowsTables(unittest.TestCase):
    cases = (SYSTEM, RING, IDLE, ROUND)

    def no(self, system, table):
        self.assertIs(shows_whole(system, ("kept", table)), False)

    def test_what_whole_tells(self):
        for system in self.cases:
            self.assertIs(shows_whole(system, whole(system)), True)

    def test_values_of_any_kind(self):
        for system in self.cases:
            table = whole(system)[1]
            for value in ODD_VALUES:
                self.assertIs(shows_whole(system, value), False)
                self.no(system, value)
                self.no(system, (value,))
                self.assertIs(shows_whole(system, (value, table)), False)
                self.assertIs(shows_whole(system, ("broken", value)), False)
                self.assertIs(shows_whole(system, ("broken", (value,))), False)
            for value in (("keeps", table), ("broken", table), ["kept", table], ("kept", table, ()), ("kept",), table,
                          ("kept", list(table)), ("kept", [])):
                self.assertIs(shows_whole(system, value), False)

    def test_a_moment_of_any_kind(self):
        for system in self.cases:
            table = whole(system)[1]
            for at in range(0, len(table), 3):
                for place in range(4):
                    for value in ODD_VALUES:
                        other = table[at][:place] + (value,) + table[at][place + 1:]
                        if exactly(other) != exactly(table[at]):
                            self.no(system, table[:at] + (other,) + table[at + 1:])
                self.no(system, table[:at] + (list(table[at]),) + table[at + 1:])
                self.no(system, table[:at] + (table[at] + ((),),) + table[at + 1:])
                self.no(system, table[:at] + (table[at][:-1],) + table[at + 1:])

    def test_left_out_twice_and_out_of_sequence(self):
        for system in self.cases:
            table = whole(system)[1]
            for at in range(len(table)):
                self.no(system, table[:at] + table[at + 1:])
                self.no(system, table[:at] + (table[at],) + table[at:])
                if at:
                    self.no(system, table[:at - 1] + (table[at], table[at - 1]) + table[at + 1:])
            self.no(system, ())
            self.no(system, table[::-1])

    def test_a_truth_in_the_place_of_a_number(self):
        for system in self.cases:
            swapped = 0
            for other in with_truths(whole(system)[1]):
                self.no(system, other)
                swapped += 1
            self.assertGreater(swapped, 10)

    def test_of_another_system(self):
        self.no(TIGHT, whole(SYSTEM)[1])
        self.assertIs(shows_whole(RING, whole(ROUND)), False)
        # Where a call is open that the pact does not let, no answer is let either.
        self.no(SYSTEM.with_pact(FILL, ((),)), whole(SYSTEM)[1])

    def test_greater_closed_tables(self):
        grown = 0
        for system in [system for system in kept_systems(60) if len(whole(system)[1]) < 30] + [SYSTEM, RING]:
            least = set(whole(system)[1])
            for moment in extra_moments(system):
                try:
                    moments, events = plainwhole.kept_or_broken(system, [moment])
                except (KeyError, ValueError, IndexError):
                    moments, events = None, None
                right = plainwhole.is_moment(system, moment)
                if not right:
                    # Neither it alone nor with all that would come from it.
                    self.no(system, tuple(sorted(least | {moment})))
                    self.no(system, tuple(sorted(moments or ())))
                elif events is None and moments is not None:
                    # All that comes from a moment by its form has the form as well, if it keeps.
                    formed = all(plainwhole.is_moment(system, later) for later in moments)
                    self.assertIs(shows_whole(system, ("kept", tuple(sorted(moments)))), formed)
                    grown += len(moments) > len(least)
                    if moment not in least:
                        rest = tuple(sorted(moments - {moment}))
                        closed = set(rest) == plainwhole.kept_or_broken(system, rest)[0]
                        self.assertIs(shows_whole(system, ("kept", rest)), closed and formed)
                elif events is not None:
                    self.no(system, tuple(sorted(moments)))
        self.assertGreater(grown, 100)

    def test_the_first_moment_is_needed(self):
        system = System("worths 2\npart a\n  cell n 0\n  door x\n    set n 1\nouter a\n  state 0\n    x 0 -> 0 0")
        table = whole(system)[1]
        later = tuple(moment for moment in table if moment[0] == (((1,), ()),))
        self.assertEqual(len(later), 2)
        self.no(system, later)

    def test_calls_by_their_form(self):
        for system in (RING, ROUND):
            first = plainwhole.first_moment(system)
            door = system.part("a").doors[0]
            for call in ((("", "zz"), door, 0), (("a", "zz"), door, 0), (("", "a"), "zz", 0),
                         (("", "a"), door, 2), (("", "a"), door, -1), (("", "a"), door), (("", "a"), door, 0, 0), (0, door, 0)):
                table, moment = whole(system)[1], (first[0], (call,), (), first[3])
                for at in range(len(table) + 1):
                    self.no(system, table[:at] + (moment,) + table[at:])

    def test_every_moment_by_its_form(self):
        found, closed = {True: 0, False: 0}, 0
        for system in (RING, ROUND, BUSY_RING, LOOP):
            least = plainwhole.kept_or_broken(system)[0]
            inners = list(product(*[[((), ()), ((), (2, 0)), ((), (2, 1))] for _ in system.parts]))
            wires = [("", "a")] + [wire for wire in system.wires if wire[0]]
            calls = [(wire, system.part(system.offerer(wire)).doors[0], worth) for wire in wires for worth in (0, 1)]
            stacks = [()] + [tuple(stack) for many in (1, 2, 3) for stack in product(calls[::2] + calls[1:2], repeat=many)]
            stacks += [(calls[0], calls[2], calls[4], calls[-2]), (calls[0], calls[2], calls[4], calls[-2], calls[2])]
            givens = [(), (wires[1], 0), (wires[-1], -2), (("", "a"), 0)]
            for inner, stack, given in product(inners[::2] + inners[13:14], stacks, givens):
                moment = (inner, stack, given, (0,) * len(system.wires))
                right = plainwhole.is_moment(system, moment)
                found[right] += 1
                try:
                    table, events = plainwhole.kept_or_broken(system, [moment])
                    closed += not right and events is None
                except (KeyError, ValueError, IndexError, TypeError):
                    table, events = least | {moment}, None
                right = right and events is None and all(plainwhole.is_moment(system, later) for later in table)
                self.assertIs(shows_whole(system, ("kept", tuple(sorted(table)))), right, moment)
        self.assertGreater(closed, 50)
        self.assertGreater(found[True], 20)
        self.assertGreater(found[False], 500)


def extra_moments(system):
    """Moments, and what is nearly such, with other cells and states, other calls, and others that wait."""
    found = []
    for moment in whole(system)[1][:12]:
        inners, stack, given, states = moment
        for at, (cells, wait) in enumerate(inners):
            for worth in range(2):
                other = ((worth,) * len(cells), wait)
                found.append((inners[:at] + (other,) + inners[at + 1:], stack, given, states))
            found.append((inners[:at] + ((cells, ()),) + inners[at + 1:], stack, given, states))
        for at in range(len(states)):
            for state in (0, len(system.pact(system.wires[at])) - 1):
                found.append((inners, stack, given, states[:at] + (state,) + states[at + 1:]))
        found.append((inners, stack[:-1], given, states))
        found.append((inners, stack + stack[-1:], given, states))
        for answer in (-2, 0):
            found += [(inners, stack, (wire, answer), states) for wire in system.wires]
    return found


class ShowsRuns(unittest.TestCase):
    def no(self, system, run):
        self.assertIs(shows_whole(system, ("broken", run)), False)

    def test_longer_runs(self):
        fill = ((FILL, "call", "fill", 0), (FILL, "answer", 0))
        run = whole(TIGHT)[1]
        for many in (1, 2, 30, 2500):
            self.assertIs(shows_whole(TIGHT, ("broken", fill * many + run)), True)
        good, bad = run[:4], run[4:]
        self.assertIs(shows_whole(TIGHT, ("broken", (good + fill) * 7 + good + bad)), True)
        self.no(TIGHT, good + fill + bad)
        self.no(SYSTEM, run)
        self.no(IDLE, run)

    def test_cut_and_changed_runs(self):
        for system in [TIGHT, RING.with_pact(("b", "p"), ((),))]:
            run = whole(system)[1]
            self.assertIs(shows_whole(system, ("broken", run)), True)
            self.no(system, list(run))
            self.no(system, run + run[-1:])
            for at in range(len(run)):
                self.no(system, run[:at])
                self.no(system, run[:at] + run[at + 1:])
                self.no(system, run[:at] + (run[at],) + run[at:])
                self.no(system, run[:at] + (list(run[at]),) + run[at + 1:])
                for value in ODD_VALUES:
                    self.no(system, run[:at] + (value,) + run[at + 1:])
                    for place in range(len(run[at])):
                        event = run[at][:place] + (value,) + run[at][place + 1:]
                        if exactly(event) != exactly(run[at]):
                            self.no(system, run[:at] + (event,) + run[at + 1:])
            others = list(with_truths(run))
            self.assertTrue(others)
            for other in others:
                self.no(system, other)

    def test_calls_of_the_outside_that_are_not_let(self):
        self.no(SYSTEM, ((PAY, "call", "pay", 2),))
        self.no(SYSTEM, ((FILL, "call", "fill", 1),))
        self.no(SYSTEM, ((GET, "call", "get", 0),))

    def test_draws_that_fit_what_came(self):
        system = System("worths 2\npart a\n  cell n 0\n  door x\n    draw n\n    answer 0\n  door y\n    answer n\n"
                        "outer a\n  state 0\n    x 0 -> 0 0\n    y 0 -> 0 0")
        wire = ("", "a")
        draw, tell = ((wire, "call", "x", 0), (wire, "answer", 0)), (wire, "call", "y", 0)
        for run, right in ((draw + (tell, (wire, "answer", 1)), True), ((tell, (wire, "answer", 1)), False),
                           (draw + (tell, (wire, "answer", 0), tell, (wire, "answer", 1)), False),
                           (draw * 2 + (tell, (wire, "answer", 1)), True)):
            self.assertIs(shows_whole(system, ("broken", run)), right)


class TooManyMoments(unittest.TestCase):
    def test_4000_and_4001(self):
        self.assertEqual(len(whole(counter([9] * 400))[1]), 4000)
        many = counter([10] + [9] * 399)
        self.assertEqual(told(lambda: whole(many)), ("TooMany", 4000))
        self.assertEqual(told(lambda: whole(counter([12] * 400))), ("TooMany", 4000))
        moments, events = plainwhole.kept_or_broken(many)
        self.assertIsNone(events)
        table = tuple(sorted(moments))
        self.assertEqual(len(table), 4001)
        self.assertIs(shows_whole(many, ("kept", table)), True)
        self.assertIs(shows_whole(many, ("kept", table[1:])), False)

    def test_a_short_run_among_many_moments(self):
        many = counter([12] * 400)
        pact = many.pact(("", "a"))
        for number in (0, 3):
            changed = pact[:number] + ((("a", 0, ((1, 0),)),) + pact[number][1:],) + pact[number + 1:]
            found = whole(many.with_pact(("", "a"), changed))
            self.assertEqual((found[0], len(found[1])), ("broken", 2 * number + 2))

    def test_a_run_behind_4000_moments(self):
        for rows, enough in (([9] * 400, True), ([10] + [9] * 399, False)):
            system = counter(rows)
            pact = system.pact(("", "a"))
            broken = system.with_pact(("", "a"), pact[:-1] + ((("a", 0, ((1, 0),)),) + pact[-1][1:],))
            found = told(lambda: whole(broken))
            self.assertEqual(found[0], "broken" if enough else "TooMany")
            if enough:
                self.assertEqual(len(found[1]), 800)
                self.assertIs(shows_whole(broken, found), True)


class OfParts(unittest.TestCase):
    def test_inners_are_of_all_parts_in_their_sequence(self):
        first = whole(SYSTEM)[1][0]
        self.assertEqual(len(first[0]), 2)
        self.assertEqual(called(SYSTEM.part("shop"), whole(SYSTEM)[1][0][0][1], "get", 0)[0][0][0], "gives")
        self.assertIs(shows_keeps(SYSTEM, "shop", keeps(SYSTEM, "shop")), True)
        self.assertIsInstance(SYSTEM.part("till"), Part)


if __name__ == "__main__":
    unittest.main()
