import unittest
from itertools import product
from random import Random

from tests import plaintested
from tests.helping import ODD_VALUES, exactly, told
from tests.manysystems import kept_systems, random_system
from tests.test_counting import LUCKY
from tests.test_keeping import COME, GET, PAY, RING, SYSTEM, with_truths
from tests.test_standins import pact
from tests.test_wholes import LOOP
from truestandins.counting import most
from truestandins.errors import BadText
from truestandins.keeping import keeps
from truestandins.pacts import behind
from truestandins.pacttexts import read_pact
from truestandins.parts import Part
from truestandins.standins import pact_of
from truestandins.systems import System
from truestandins.tested import Test, shows_tested, tested, untrue
from truestandins.wholes import whole

TEST_TEXT = "part till\nstand in shop\n  get 0 twice -> 0\ncall pay 0 -> 0\ncall pay 0 -> 0"
TEST = Test(TEST_TEXT)
ONCE = read_pact(2, "state 0\n  get 0 -> 0 1\n  get 1 -> 1 1\nstate 1\n  get any -> lost 1")
SOLD = System(SYSTEM.text.split("\nouter shop")[0]).with_pact(GET, ONCE)
BESIDES = ("standins", "pacts", "real")
# A part that asks again and again while it is told lost.
STUBBORN = Part(2, "port shop\ndoor pay\n  ask shop get it\n  while lost\n    ask shop get it\n  answer got")
STUBBORN_TILL = SYSTEM.with_part("till", STUBBORN)
# Two ports, told in a sequence that is not that of their names.
TWO = System(
    "worths 2\npart a\n  cell n 0\n  port q\n  port p\n  door x\n    ask q x it\n    set n got\n    ask p x n\n    answer got\n"
    "part b\n  door x\n    answer it\npart c\n  cell m 0\n  door x\n    draw m\n    answer m\nwire a q b\n  state 0\n"
    "    x any -> any 1, lost 0\n  state 1\n    x any -> any 1\nwire a p c\n  state 0\n    x any -> any 0\nouter c\n  state 0")


def test_of(*rows):
    return Test("\n".join(rows))


def till_test(stand_in, *calls):
    return test_of("part till", "stand in shop", *["  " + row for row in stand_in.split("\n")], *calls)


class Examples(unittest.TestCase):
    def test_as_they_stand(self):
        self.assertEqual([tested(SYSTEM, TEST, "standins")[0], len(tested(SYSTEM, TEST, "pacts")[1]),
                          len(tested(SYSTEM, TEST, "real")[1]), tested(SYSTEM, TEST, "real")[2]], ["passes", 4, 8, "answer"])
        self.assertEqual([untrue(SYSTEM, TEST), untrue(SOLD, TEST)], [None, ("shop", (("get", 0, 0), ("get", 0, 0)))])


class Texts(unittest.TestCase):
    def bad(self, line, *rows):
        self.assertEqual(told(lambda: test_of(*rows)), ("BadText", line), rows)

    def test_what_is_read(self):
        for text in (TEST_TEXT, "part a\ncall x 0", "part a\ncall x 3 -> any\ncall x 0 -> lost\ncall x 1 -> 3",
                     "part a\nstand in p\n  in order\n  x any often -> 3, lost, busy\n  else busy\nstand in q\n  x 0 once -> 0\n"
                     "call x 0", "part part\nstand in stand\n  else 0 once -> 0\n  else 0\ncall call 0\ncall call 0 -> any",
                     "part a\n" + "\n".join(["call x 0"] * 8)):
            self.assertEqual(Test(text).text, text)
        self.assertEqual(Test(text=TEST_TEXT).text, TEST_TEXT)

    def test_no_string(self):
        for value in ODD_VALUES:
            if not isinstance(value, str):
                self.assertEqual(told(lambda: Test(value)), ("BadText", -1))

    def test_the_line_of_the_part(self):
        for row in ("", "part", "part A", "part a b", "part  a", " part a", "part a ", "parts a", "part toolongname", "call x 0"):
            self.bad(0, row, "call x 0")
            self.bad(0, row)
        self.bad(1, "part a")
        self.bad(1, "part a", "part b", "call x 0")

    def test_lines_of_stand_ins(self):
        for row in ("stand in", "stand in P", "stand in p q", "stand p", "stand in  p", " stand in p", "stand at p", "stand"):
            self.bad(1, "part a", row, "  x 0 once -> 0", "call x 0")
        below = ("stand in p", "  x 0 once -> 0")
        self.bad(3, "part a", *below, *below, "call x 0")
        self.bad(5, "part a", *below, "stand in q", "  x 0 once -> 0", "stand in r", "  x 0 once -> 0", "call x 0")
        self.bad(2, "part a", "call x 0", *below)
        self.bad(2, "part a", "stand in p", "call x 0")
        self.bad(2, "part a", "stand in p")
        self.bad(3, "part a", *below)

    def test_lines_below_stand_ins(self):
        for row in ("x 0 once -> 4", "x 4 once -> 0", "x 0 once", "any 0 once -> 0", "else 0", " x 0 once -> 0", "x 0 once -> any"):
            self.bad(2, "part a", "stand in p", "  " + row, "call x 0")
            self.bad(3, "part a", "stand in p", "  in order", "  " + row, "call x 0")
        self.bad(2, "part a", "stand in p", "x 0 once -> 0", "call x 0")
        self.bad(3, "part a", "stand in p", "  x 0 once -> 3", "   x 0 once -> 3", "call x 0")
        self.bad(3, "part a", "stand in p", "  x 0 once -> 3", "  else 4", "call x 0")
        self.bad(6, "part a", "stand in p", *["  x 0 once -> 3"] * 5, "call x 0")
        self.bad(4, "part a", "stand in p", "  x 0 once -> 3", "stand in q", "call x 0")
        self.bad(3, "part a", "stand in p", "  in order", "call x 0")

    def test_lines_of_calls(self):
        for row in ("call", "call x", "call X 0", "call any 0", "call x 4", "call x any", "call x lost", "call x -1", "call x 00",
                    "call x 0 ->", "call x 0 -> ", "call x 0 -> 4", "call x 0 -> busy", "call x 0 -> 0, 1", "call x 0 -> 0 1",
                    "call x 0 0", "call x 0 => 0", "call  x 0", " call x 0", "call x 0 ", "", "calls x 0", "else 0", "  call x 0",
                    "call x 0 -> Any", "part a"):
            self.bad(1, "part a", row)
            self.bad(2, "part a", "call x 0", row)
            self.bad(2, "part a", "call x 0", row, "call X 0")
        self.bad(9, "part a", *["call x 0"] * 9)
        self.bad(9, "part a", *["call x 0"] * 11)

    def test_of_several_bad_lines_the_first(self):
        self.bad(2, "part a", "stand in p", "  x 9 once -> 0", "stand in p", "call x 9")
        self.bad(0, "", "", "call")

    def test_equal_by_their_texts(self):
        self.assertTrue(TEST == Test(TEST_TEXT))
        self.assertFalse(TEST != Test(TEST_TEXT))
        self.assertFalse(TEST == Test(TEST_TEXT.replace("twice", "often")))
        # Alike in all but one blank line that cannot stand: so texts differ where tests do.
        for value in ODD_VALUES + (TEST_TEXT, SYSTEM, SYSTEM.part("till")):
            self.assertFalse(TEST == value)
            self.assertTrue(TEST != value)


class Passes(unittest.TestCase):
    def test_beside_stand_ins(self):
        still, waits = ((), ()), ((), (2, 0))
        rows = []
        for number in (0, 1):
            rows += [(number, still, (), (), ((0, (number,)),)), (number, still, (), ("call",), ((0, (number,)),)),
                     (number, waits, ("shop", "get", 0), (), ((0, (number,)),)),
                     (number, waits, (), ("answer", 0), ((0, (number + 1,)),))]
        rows.append((2, still, (), (), ((0, (2,)),)))
        self.assertEqual(tested(SYSTEM, TEST, "standins"), ("passes", tuple(sorted(rows))))

    def test_beside_pacts(self):
        still, waits = ((), ()), ((), (2, 1))
        test = till_test("get 0 twice -> 0", "call pay 1")
        rows = [(0, still, (), (), (0,)), (0, still, (), ("call",), (0,)), (0, waits, ("shop", "get", 1), (), (0,)),
                (0, waits, (), ("answer", 0), (1,)), (0, waits, (), ("answer", 1), (1,)), (0, waits, (), ("answer", -1), (0,)),
                (1, still, (), (), (0,)), (1, still, (), (), (1,))]
        moving = SYSTEM.with_pact(GET, read_pact(2, "state 0\n  get any -> any 1, lost 0\nstate 1"))
        self.assertEqual(tested(moving, test, "pacts"), ("passes", tuple(sorted(rows))))

    def test_beside_the_real_parts(self):
        still, waits = ((), ()), ((), (2, 1))
        pay, get = (PAY, "pay", 1), (GET, "get", 1)
        test = till_test("get 0 twice -> 0", "call pay 1 -> 1")
        full, empty = ((1,), ()), ((0,), ())
        self.assertEqual(tested(SYSTEM, test, "real"), ("passes", tuple(sorted([
            (0, (still, full), (), ()), (0, (still, full), (pay,), ()), (0, (waits, full), (pay, get), ()),
            (0, (waits, empty), (pay,), (GET, 1)), (1, (still, empty), (), ()),
        ]))))

    def test_no_pacts_are_asked_of_the_real_parts(self):
        closed = SYSTEM.with_pact(GET, ((),)).with_pact(PAY, ((),)).with_pact(("", "shop"), ((),))
        test = till_test("get 0 twice -> 0", "call pay 1 -> 1")
        self.assertEqual(tested(closed, test, "real"), tested(SYSTEM, test, "real"))

    def test_a_part_that_the_outside_does_not_call(self):
        # The test calls c and a all the same; a has no outer wire.
        test = test_of("part a", "stand in p", "  x any often -> 1", "stand in q", "  x 0 once -> 0", "call x 0")
        for beside in BESIDES:
            self.assertEqual(tested(TWO, test, beside)[0], "passes")

    def test_a_test_without_stand_ins(self):
        test = test_of("part shop", "call get 1 -> 1", "call get 0 -> lost", "call fill 0", "call get 0 -> any")
        tables = [tested(SYSTEM, test, beside) for beside in BESIDES]
        self.assertEqual([word for word, _ in tables], ["passes"] * 3)
        self.assertEqual(tables[0], tables[1])
        self.assertEqual([len(table) for _, table in tables], [9, 9, 9])

    def test_ports_stand_in_the_sequence_of_the_part(self):
        test = test_of("part a", "stand in p", "  x 1 once -> 1", "stand in q", "  in order", "  x 1 often -> 0", "  x 0 once -> 1",
                       "call x 0 -> 1")
        states = set(member[4] for member in tested(TWO, test, "standins")[1])
        self.assertEqual(states, {((0, (0, 0)), (0, (0,))), ((1, (0, 1)), (0, (0,))), ((1, (0, 1)), (0, (1,)))})
        self.assertEqual(set(member[4] for member in tested(TWO, test_of(
            "part a", "stand in p", "  x 1 once -> 1", "stand in q", "  x 0 once -> 1", "call x 0"), "pacts")[1]), {(0, 0), (1, 0)})

    def test_uses_are_counted_no_further_than_told(self):
        calls = ["call pay 0"] * 5
        for row, uses in (("get 0 often -> 0", {0, 1}), ("get 0 often -> 0, 1", {0, 1, 2}), ("get 0 often -> 0, 0, 0", {0, 1, 2, 3})):
            states = set(member[4] for member in tested(SYSTEM, till_test(row, *calls), "standins")[1])
            self.assertEqual(states, {((0, (many,)),) for many in uses})
        for row, many in (("get 0 twice -> 0", 2), ("get 0 once -> 0, 1, lost", 1), ("get 0 twice -> 0, 1, lost", 2)):
            states = set(member[4] for member in tested(SYSTEM, till_test(row, *calls[:many]), "standins")[1])
            self.assertEqual(states, {((0, (used,)),) for used in range(many + 1)})

    def test_places(self):
        rows = "get 0 once -> 0\nget 1 often -> 1\nget 0 twice -> 0"
        calls = ["call pay 0", "call pay 1", "call pay 0", "call pay 0"]
        ordered = tested(SYSTEM, till_test("in order\n" + rows, *calls), "standins")
        self.assertEqual(set(member[4][0] for member in ordered[1]),
                         {(0, (0, 0, 0)), (0, (1, 0, 0)), (1, (1, 1, 0)), (2, (1, 1, 1)), (2, (1, 1, 2))})
        free = tested(SYSTEM, till_test(rows, *calls), "standins")
        self.assertEqual(set(member[4][0] for member in free[1]),
                         {(0, (0, 0, 0)), (0, (1, 0, 0)), (0, (1, 1, 0)), (0, (1, 1, 1)), (0, (1, 1, 2))})

    def test_draws(self):
        dice = SYSTEM.with_part("shop", Part(2, "cell n 0\ndoor get\n  draw n\n  if n = it\n    fail\n  answer n\ndoor fill\n  answer 0"))
        self.assertEqual(tested(dice, test_of("part shop", "call get 0 -> 1"), "standins")[::2], ("fails", "answer"))
        members = tested(dice, test_of("part shop", "call get 0"), "standins")[1]
        self.assertEqual(set(inner for number, inner, *_ in members if number == 1), {((0,), ()), ((1,), ())})

    def test_cells_stay_from_one_call_to_the_next(self):
        self.assertEqual(tested(SYSTEM, test_of("part shop", "call get 0 -> 0", "call get 0 -> lost"), "pacts")[0], "passes")


class Fails(unittest.TestCase):
    def fails(self, system, test, beside, word, events):
        found = tested(system, test, beside)
        self.assertEqual((found[0], len(found[1]), found[2]), ("fails", events, word))
        self.assertIs(shows_tested(system, test, beside, found), True)
        return found[1]

    def test_by_a_surprise(self):
        pay, ask = (PAY, "call", "pay", 1), (GET, "call", "get", 1)
        for row in ("get 0 often -> 0", "fill any once -> 0", "in order\nget 0 once -> 0\nget 1 once -> 0"):
            self.assertEqual(self.fails(SYSTEM, till_test(row, "call pay 1"), "standins", "surprise", 2), (pay, ask))
        self.fails(SYSTEM, till_test("get 0 once -> 0", "call pay 0", "call pay 0"), "standins", "surprise", 6)
        closed = SYSTEM.with_pact(GET, read_pact(2, "state 0\n  get 0 -> 0 0"))
        self.assertEqual(self.fails(closed, till_test("get 1 once -> 0", "call pay 1"), "pacts", "surprise", 2), (pay, ask))

    def test_by_an_answer_that_is_not_awaited(self):
        for answer, awaited, right in (("0", "0", True), ("0", "any", True), ("0", "1", False), ("0", "lost", False),
                                       ("lost", "lost", True), ("lost", "any", False), ("lost", "0", False)):
            test = till_test(f"get any often -> {answer}", f"call pay 0 -> {awaited}")
            if right:
                self.assertEqual(tested(SYSTEM, test, "standins")[0], "passes")
            else:
                self.fails(SYSTEM, test, "standins", "answer", 4)

    def test_without_an_awaited_answer_any_will_do(self):
        for answer in ("0", "1", "lost", "busy"):
            self.assertEqual(tested(SYSTEM, till_test(f"get any often -> {answer}", "call pay 0"), "standins")[0], "passes")

    def test_by_rows_that_were_not_used(self):
        for row, right in (("get 1 often -> 0", True), ("get 1 once -> 0", False), ("get 0 twice -> 0", False),
                           ("get 0 once -> 0", True), ("get 0 once -> 0\nget 0 once -> 0", False), ("get 0 twice -> 0, 1, 1", False)):
            test = till_test(row + "\nelse 1", "call pay 0")
            if right:
                self.assertEqual(tested(SYSTEM, test, "standins")[0], "passes")
            else:
                self.fails(SYSTEM, test, "standins", "missing", 4)
                # Beside pacts and the real parts no rows are asked for.
                self.assertEqual(tested(SYSTEM, test, "real")[0], "passes")
                self.assertEqual(tested(SYSTEM, test, "pacts")[0], "passes")

    def test_an_answer_goes_ahead_of_what_is_missing(self):
        self.fails(SYSTEM, till_test("get 0 twice -> 0", "call pay 0 -> 1"), "standins", "answer", 4)
        self.fails(SYSTEM, till_test("get 0 twice -> 0", "call pay 0 -> 0"), "standins", "missing", 4)

    def test_rows_are_asked_for_behind_the_whole_test_alone(self):
        self.assertEqual(tested(SYSTEM, TEST, "standins")[0], "passes")
        self.fails(SYSTEM, till_test("get 0 twice -> 0\nget 1 once -> 0", "call pay 0", "call pay 0"), "standins", "missing", 8)

    def test_runs_of_fewest_events(self):
        dice = SYSTEM.with_part("till", Part(2, "cell n 0\nport shop\ndoor pay\n  draw n\n  if n = 0\n    answer 0\n  ask shop get 0\n"
                                             "  ask shop get 1\n  fail"))
        self.fails(dice, till_test("get 0 often -> 0\nget 1 once -> 0", "call pay 0 -> any"), "standins", "missing", 2)
        self.fails(dice, till_test("get 0 often -> 0", "call pay 0"), "standins", "surprise", 4)
        self.fails(dice, till_test("get any often -> 0", "call pay 0 -> any"), "standins", "answer", 6)
        self.fails(dice, till_test("get any often -> 0", "call pay 0 -> 0"), "pacts", "answer", 6)
        self.fails(dice, till_test("get any often -> 0", "call pay 0 -> 0"), "real", "answer", 6)

    def test_beside_the_real_parts(self):
        run = self.fails(SYSTEM, TEST, "real", "answer", 8)
        self.assertEqual(run, (
            (PAY, "call", "pay", 0), (GET, "call", "get", 0), (GET, "answer", 0), (PAY, "answer", 0),
            (PAY, "call", "pay", 0), (GET, "call", "get", 0), (GET, "answer", -1), (PAY, "answer", -1)))

    def test_a_failure_goes_ahead_of_what_is_endless(self):
        test = till_test("get 1 often -> lost\nget 0 once -> 0", "call pay 1", "call pay 0 -> 1")
        self.assertEqual(tested(STUBBORN_TILL, test, "standins")[0], "endless")
        self.fails(STUBBORN_TILL, till_test("get any often -> lost, 1", "call pay 0 -> 0"), "standins", "answer", 6)
        self.fails(STUBBORN_TILL, till_test("get any often -> 1", "call pay 0 -> 0"), "pacts", "answer", 4)


class Endless(unittest.TestCase):
    def endless(self, system, test, beside):
        found = tested(system, test, beside)
        self.assertEqual((found[0], len(found)), ("endless", 3))
        self.assertIs(shows_tested(system, test, beside, found), True)
        bed = plaintested.bed_of(system, test, beside)
        self.assertTrue(found[2])
        self.assertFalse([event for event in found[2] if event[0] == bed_wire(bed)])
        for many in range(5):
            self.assertTrue(plaintested.words_behind(bed, found[1] + found[2] * many))
        return found

    def test_one_that_is_always_told_lost(self):
        self.endless(STUBBORN_TILL, till_test("get 0 often -> lost", "call pay 0"), "standins")
        self.endless(STUBBORN_TILL, till_test("get 0 often -> 0, 0, lost", "call pay 0", "call pay 0", "call pay 0"), "standins")
        self.endless(STUBBORN_TILL, till_test("get 1 often -> 0\nelse lost", "call pay 0"), "standins")
        self.endless(STUBBORN_TILL, till_test("get 0 often -> 1", "call pay 0"), "pacts")
        self.endless(STUBBORN_TILL, till_test("get 0 often -> 1", "call pay 0", "call pay 1"), "real")
        self.assertEqual(tested(STUBBORN_TILL, till_test("get 0 often -> 1", "call pay 0"), "real")[0], "passes")
        self.assertEqual(tested(STUBBORN_TILL, till_test("get 0 often -> lost, lost, 1", "call pay 0"), "standins")[0], "passes")
        self.assertEqual(tested(STUBBORN_TILL, till_test("get 0 often -> lost, lost, busy", "call pay 0"), "standins")[0], "passes")

    def test_rings_of_real_parts(self):
        test = test_of("part c", "stand in p", "  x any often -> 0", "call x 0")
        self.assertEqual(tested(LOOP, test, "standins")[0], "passes")
        self.endless(LOOP, test, "real")

    def test_a_ring_of_two_answers_busy(self):
        test = test_of("part a", "stand in q", "  come 0 once -> 1", "call go 0 -> 1")
        for beside in ("standins", "real"):
            self.assertEqual(tested(RING, test, beside)[0], "passes")
        stacks = [stack for _, _, stack, _ in tested(RING, test, "real")[1]]
        self.assertEqual(max(len(stack) for stack in stacks), 3)


def bed_wire(bed):
    return "", bed.name


def some_cases():
    """(system, test that fits it)."""
    found = []
    systems = kept_systems(50) + [random_system(seed) for seed in range(50)] + [SYSTEM, SOLD, STUBBORN_TILL, RING, TWO, LOOP] * 4
    for seed, system in enumerate(systems):
        draw = Random(seed)
        found += [(system, plaintested.random_test(draw, system)) for _ in range(4)]
    return found


CASES = some_cases()


class Many(unittest.TestCase):
    def test_what_is_told(self):
        words = {}
        for system, test in CASES:
            for beside in BESIDES:
                found, plain = tested(system, test, beside), plaintested.plain_tested(system, test, beside)
                word = found[2] if found[0] == "fails" else found[0]
                words[beside, word] = words.get((beside, word), 0) + 1
                self.assertIs(shows_tested(system, test, beside, found), True)
                if found[0] == "fails":
                    self.assertEqual(plain[:2], ("fails", len(found[1])), test.text)
                    self.assertIn(found[2], plain[2])
                    self.assertIn(found[2], plaintested.words_behind(plaintested.bed_of(system, test, beside), found[1]))
                elif found[0] == "endless":
                    self.assertEqual(plain, ("endless",))
                    bed = plaintested.bed_of(system, test, beside)
                    self.assertTrue(found[2] and plaintested.words_behind(bed, found[1] + found[2] * 4))
                else:
                    self.assertEqual(found, plain, test.text)
        wanted = [("standins", word) for word in ("surprise", "answer", "missing", "endless", "passes")]
        wanted += [("pacts", word) for word in ("surprise", "answer", "endless", "passes")]
        wanted += [("real", word) for word in ("answer", "passes")]
        for word in wanted:
            self.assertGreater(words.get(word, 0), 8, word)
        self.assertFalse({("real", "surprise"), ("real", "missing"), ("pacts", "missing")} & set(words))

    def test_untrue(self):
        told_some = 0
        for system, test in CASES:
            found, plain = untrue(system, test), plain_untrue(system, test, 6)
            if plain is not None:
                self.assertEqual(found, plain, test.text)
                told_some += 1
            elif found is not None:
                self.assertGreater(len(found[1]), 6)
        self.assertGreater(told_some, 60)


def plain_untrue(system, test, longest):
    """As untrue, among words of so many letters at most: all words at a port come one by one."""
    bed = plaintested.bed_of(system, test, "standins")
    found = []
    for port in bed.ports:
        met, left = {(bed.first(), ())}, [(bed.first(), ())]
        while left:
            member, word = left.pop()
            for event, later in bed.moves(member):
                letters = ()
                if event[:2] == ((bed.name, port), "answer"):
                    letters = (member[2][1:] + event[2:],)
                if isinstance(later, str) or len(word + letters) > longest:
                    continue
                if behind(system.pact((bed.name, port)), word + letters) is None:
                    found.append((len(word) + 1, port, word + letters))
                elif (later, word + letters) not in met:
                    met.add((later, word + letters))
                    left.append((later, word + letters))
    return min(found)[1:] if found else None


class Untrue(unittest.TestCase):
    def test_the_shortest_word(self):
        self.assertEqual(untrue(SYSTEM, till_test("get 0 often -> busy", "call pay 0")), ("shop", (("get", 0, -2),)))
        self.assertIsNone(untrue(SYSTEM, till_test("get 0 often -> 0, 1, lost", *["call pay 0"] * 3)))
        self.assertEqual(untrue(SYSTEM, till_test("get 0 often -> 0, 1, busy", *["call pay 0"] * 3)),
                         ("shop", (("get", 0, 0), ("get", 0, 1), ("get", 0, -2))))
        self.assertIsNone(untrue(SYSTEM, till_test("get 0 often -> 0, 1, busy", *["call pay 0"] * 2)))

    def test_a_call_that_the_pact_does_not_let(self):
        tight = SYSTEM.with_pact(GET, read_pact(2, "state 0\n  get 0 -> any 0"))
        self.assertEqual(untrue(tight, till_test("get 1 once -> 0", "call pay 1")), ("shop", (("get", 1, 0),)))
        # A surprise is not answered: it is no word.
        self.assertIsNone(untrue(tight, till_test("get 0 once -> 0", "call pay 1")))

    def test_up_to_what_goes_wrong(self):
        busy = till_test("get 0 often -> busy\nget 1 often -> 0", "call pay 1 -> 1", "call pay 0")
        self.assertIsNone(untrue(SYSTEM, busy))
        self.assertEqual(untrue(SYSTEM, till_test("get 0 often -> busy\nget 1 often -> 0", "call pay 1 -> 0", "call pay 0")),
                         ("shop", (("get", 1, 0), ("get", 0, -2))))
        # The word comes, and the test fails behind it.
        self.assertEqual(untrue(SYSTEM, till_test("get 0 often -> busy", "call pay 0 -> 1")), ("shop", (("get", 0, -2),)))

    def test_of_several_the_least(self):
        dice = SYSTEM.with_part("till", Part(2, "cell n 0\nport shop\ndoor pay\n  draw n\n  ask shop get n\n  answer 0"))
        self.assertEqual(untrue(dice, till_test("get any often -> busy", "call pay 0")), ("shop", (("get", 0, -2),)))
        self.assertEqual(untrue(dice, till_test("get 1 often -> busy\nget 0 often -> 0", "call pay 0")), ("shop", (("get", 1, -2),)))
        calls = ["call pay 0", "call pay 0"]
        self.assertEqual(untrue(dice, till_test("get 1 often -> 0, busy\nget 0 often -> 1, busy", *calls)),
                         ("shop", (("get", 0, 1), ("get", 0, -2))))

    def test_of_several_words_to_the_same_place(self):
        # It asks with what it drew, then with the other worth, which comes back as an answer of the other part.
        part = Part(2, "cell n 0\nport q\nport p\ndoor x\n  ask q x 0\n  ask q x 1\n  draw n\n  ask p x n\n  ask q x n\n  set n 0\n"
                       "  ask p x got\n  ask p x 0")
        below = ("stand in p", "  x any often -> 0", "stand in q", "  x 0 often -> 1", "  x 1 often -> 0")
        system = TWO.with_part("a", part).with_pact(
            ("a", "p"), read_pact(2, "state 0\n  x any -> 0 1\nstate 1\n  x any -> 0 2\nstate 2"))
        self.assertEqual(untrue(system, test_of("part a", *below, "call x 0")), ("p", (("x", 0, 0), ("x", 1, 0), ("x", 0, 0))))

    def test_of_several_letters_to_the_same_place(self):
        # What it drew comes back as an answer of the other part, with which it asks, and is forgotten behind it.
        part = Part(2, "cell n 0\nport q\nport p\ndoor x\n  ask q x 0\n  ask q x 1\n  draw n\n  ask q x n\n  set n 0\n  ask p x got\n"
                       "  ask p x 0\n  answer 0")
        below = ("stand in p", "  x any often -> 0", "stand in q", "  x 0 often -> 0", "  x 1 often -> 1")
        test = test_of("part a", *below, "call x 0")
        for rows, word in (("", (("x", 0, 0),)), ("\n  x 0 -> 1 0\n  x 1 -> 0 0", (("x", 0, 0),)),
                           ("\n  x any -> 0 1\nstate 1", (("x", 0, 0), ("x", 0, 0)))):
            system = TWO.with_part("a", part).with_pact(("a", "p"), read_pact(2, "state 0" + rows))
            self.assertEqual(untrue(system, test), ("p", word))

    def test_of_several_ports(self):
        rows = ["stand in p", "  x any often -> busy", "stand in q", "  x any often -> busy", "call x 0"]
        self.assertEqual(untrue(TWO, test_of("part a", *rows)), ("p", (("x", 0, -2),)))
        rows[1] = "  x any often -> 0, busy"
        self.assertEqual(untrue(TWO, test_of("part a", *rows)), ("q", (("x", 0, -2),)))
        rows[3] = "  x any often -> 0, 0, busy"
        rows.append("call x 0")
        # The word at p is shorter, though more events come ahead of it.
        self.assertEqual(untrue(TWO, test_of("part a", *rows)), ("p", (("x", 0, 0), ("x", 0, -2))))

    def test_the_word_and_not_the_events_are_counted(self):
        # By fewer events it comes to a word of two letters at p; by more events to one of one letter.
        part = Part(2, "cell n 0\nport q\nport p\ndoor x\n  draw n\n  if n = 0\n    ask p x 0\n    ask p x 0\n  else\n    ask q x 0\n"
                       "    ask q x 0\n    ask q x 0\n    ask p x 1")
        system = TWO.with_part("a", part).with_pact(("a", "p"), read_pact(2, "state 0\n  x 0 -> 0 0\n  x 1 -> 0 0"))
        test = test_of("part a", "stand in p", "  x 0 often -> 0, 1", "  x 1 often -> 1", "stand in q", "  x any often -> 0", "call x 0")
        self.assertEqual(untrue(system, test), ("p", (("x", 1, 1),)))

    def test_where_it_goes_round_for_ever(self):
        self.assertIsNone(untrue(STUBBORN_TILL, till_test("get 0 often -> lost", "call pay 0")))
        twice = STUBBORN_TILL.with_pact(GET, read_pact(2, "state 0\n  get any -> lost 1\nstate 1\n  get any -> lost 2\nstate 2"))
        self.assertEqual(untrue(twice, till_test("get 0 often -> lost", "call pay 0")), ("shop", (("get", 0, -1),) * 3))

    def test_a_test_without_ports(self):
        self.assertIsNone(untrue(SYSTEM, test_of("part shop", "call get 0")))

    def test_with_pact_of_it_nothing_is_untrue(self):
        for system, test in CASES[:200]:
            _, stubs, _ = plaintested.read_parts(test.text)
            for port, text in stubs.items():
                doors = tuple(sorted(system.part(system.offerer((test.name, port))).doors))
                system = system.with_pact((test.name, port), pact_of(system.worths, doors, text))
            self.assertIsNone(untrue(system, test))


class Errors(unittest.TestCase):
    def bad(self, test, system=SYSTEM):
        for beside in BESIDES + ("other", None):
            name, value = told(lambda: tested(system, test, beside))
            self.assertEqual(name, "BadTest")
            self.assertIs(value, test)
            self.assertEqual(told(lambda: shows_tested(system, test, beside, None))[0], "BadTest")
        self.assertEqual(told(lambda: untrue(system, test))[0], "BadTest")

    def test_each_way(self):
        right = till_test("get 0 twice -> 0", "call pay 0 -> 0")
        self.assertEqual(tested(SYSTEM, right, "standins")[0], "fails")
        # No such part; ports that it does not have, or that are left out.
        self.bad(Test(right.text.replace("till", "bank")))
        self.bad(Test(right.text.replace("till", "shop")))
        self.bad(Test(right.text.replace("stand in shop", "stand in bank")))
        self.bad(test_of("part till", "call pay 0"))
        self.bad(test_of("part shop", "stand in shop", "  get 0 often -> 0", "call get 0"))
        self.bad(test_of("part a", "stand in p", "  x 0 often -> 0", "call x 0"), TWO)
        # Doors that are not its own, and not those of its offerer.
        self.bad(till_test("get 0 twice -> 0", "call get 0"))
        self.bad(till_test("get 0 twice -> 0", "call pay 0", "call buy 0"))
        self.bad(till_test("pay 0 twice -> 0", "call pay 0"))
        self.bad(till_test("get 0 often -> 0\nbuy any often -> 0", "call pay 0"))
        # Worths that are too great.
        for row, call in (("get 2 twice -> 0", "call pay 0"), ("get 0 twice -> 2", "call pay 0"), ("get 0 twice -> 0, 3", "call pay 0"),
                          ("get 0 twice -> 0\nelse 2", "call pay 0"), ("get 0 twice -> 0", "call pay 2"),
                          ("get 0 twice -> 0", "call pay 0 -> 2")):
            self.bad(till_test(row, call))

    def test_worths_that_fit(self):
        three = System(SYSTEM.text.replace("worths 2", "worths 3"))
        test = till_test("get 2 twice -> 2\nelse 2", "call pay 2 -> 2", "call pay 2")
        self.assertEqual(tested(three, test, "standins")[0], "passes")
        self.bad(test)

    def test_doors_that_nobody_asks(self):
        test = till_test("get any often -> 0\nfill any often -> 0", "call pay 0")
        self.assertEqual(tested(SYSTEM, test, "standins")[0], "passes")

    def test_bad_besides(self):
        for value in ODD_VALUES + ("Real", "pact", "stand-ins", ("real",), "standins ", b"real"):
            self.assertEqual(exactly(told(lambda: tested(SYSTEM, TEST, value))), exactly(("BadBeside", value)))
            self.assertEqual(exactly(told(lambda: shows_tested(SYSTEM, TEST, value, None))), exactly(("BadBeside", value)))

    def test_arguments_by_name(self):
        self.assertEqual(tested(beside="real", test=TEST, system=SYSTEM), tested(SYSTEM, TEST, "real"))
        self.assertEqual(untrue(test=TEST, system=SOLD), untrue(SOLD, TEST))
        self.assertIs(shows_tested(value=tested(SYSTEM, TEST, "real"), beside="real", test=TEST, system=SYSTEM), True)

    def test_nothing_is_changed(self):
        before = whole(SYSTEM)
        for beside in BESIDES:
            tested(SYSTEM, TEST, beside)
        self.assertEqual((whole(SYSTEM), TEST.text), (before, TEST_TEXT))


class Shows(unittest.TestCase):
    passing = [(SYSTEM, TEST, "standins"), (SYSTEM, till_test("get 0 twice -> 0", "call pay 1"), "pacts"),
               (SYSTEM, till_test("get 0 twice -> 0", "call pay 1 -> 1"), "real"),
               (RING, test_of("part a", "stand in q", "  come 0 once -> 1", "call go 0 -> 1"), "real"),
               (SYSTEM, till_test("in order\nget 0 often -> 0\nget 1 once -> lost, 1", "call pay 0", "call pay 1"), "standins")]
    failing = [(SYSTEM, TEST, "pacts"), (SYSTEM, TEST, "real"), (SYSTEM, till_test("get 0 often -> 0", "call pay 1"), "standins"),
               (SYSTEM, till_test("get 0 twice -> 0", "call pay 0 -> 0"), "standins")]
    lasting = [(STUBBORN_TILL, till_test("get 0 often -> lost", "call pay 0"), "standins"),
               (STUBBORN_TILL, till_test("get 0 often -> lost", "call pay 0"), "pacts"),
               (LOOP, test_of("part c", "stand in p", "  x any often -> 0", "call x 0"), "real")]

    def no(self, case, value):
        self.assertIs(shows_tested(*case, value), False, value)

    def test_what_tested_tells(self):
        for word, cases in (("passes", self.passing), ("fails", self.failing), ("endless", self.lasting)):
            for case in cases:
                found = tested(*case)
                self.assertEqual(found[0], word)
                self.assertIs(shows_tested(*case, found), True)

    def test_any_value(self):
        for case in self.passing + self.failing + self.lasting:
            found = tested(*case)
            for value in ODD_VALUES:
                for other in (value, (value,) + found[1:], found + (value,), ("passes", value), ("passes", (value,)),
                              ("fails", value, "answer"), ("fails", (value,), "answer"), ("endless", value, value),
                              ("endless", (), (value,)), ("endless", (value,), found[-1]), (found[0], found[1] + (value,)) + found[2:]):
                    self.no(case, other)
                if len(found) == 3 and value not in ("", ()):
                    self.no(case, found[:2] + (value,))
            self.no(case, list(found))
            self.no(case, (found[0], list(found[1])) + found[2:])
            for word in ("passes", "fails", "endless", "surprise"):
                if word != found[0]:
                    self.no(case, (word,) + found[1:])

    def test_any_value_in_each_place_of_a_member(self):
        for case in self.passing:
            table = tested(*case)[1]
            for at, member in enumerate(table):
                for place in range(len(member)):
                    for value in ODD_VALUES:
                        other = member[:place] + (value,) + member[place + 1:]
                        if exactly(other) != exactly(member):
                            self.no(case, ("passes", table[:at] + (other,) + table[at + 1:]))

    def test_truths_in_the_places_of_numbers(self):
        for case in self.passing + self.failing + self.lasting:
            found = tested(*case)
            for other in with_truths(found):
                self.no(case, other)

    def test_nearly_right_tables(self):
        for case in self.passing:
            table = tested(*case)[1]
            for at in range(len(table)):
                self.no(case, ("passes", table[:at] + table[at + 1:]))
                self.no(case, ("passes", table[:at] + (table[at],) + table[at:]))
            self.no(case, ("passes", table[::-1]))
            self.no(case, ("passes", ()))

    def test_greater_closed_tables(self):
        # What comes from other states may be there, too, where nothing goes wrong by it.
        moving = SYSTEM.with_pact(GET, read_pact(2, "state 0\n  get 1 -> 0 0\nstate 1\n  get 1 -> any 1"))
        case = (moving, till_test("get 0 twice -> 0", "call pay 1"), "pacts")
        table = tested(*case)[1]
        members, wrong = plaintested.all_members(plaintested.bed_of(*case), [(0, ((), ()), (), (), (1,))])
        self.assertEqual(wrong, {})
        self.assertEqual((len(table), len(members)), (5, 11))
        self.assertIs(shows_tested(*case, ("passes", tuple(sorted(members)))), True)
        for gone in sorted(members - set(table)):
            rest = tuple(sorted(members - {gone}))
            led = any(later == gone for member in rest for _, later in plaintested.bed_of(*case).moves(member))
            self.assertIs(shows_tested(*case, ("passes", rest)), not led)

    def test_greater_tables_in_which_something_goes_wrong(self):
        # In state 1 the answer is not awaited; no run leads there.
        moving = SYSTEM.with_pact(GET, read_pact(2, "state 0\n  get 1 -> 0 0\nstate 1\n  get 1 -> any 1"))
        case = (moving, till_test("get 0 twice -> 0", "call pay 1 -> 0"), "pacts")
        self.assertEqual(tested(*case)[0], "passes")
        members, wrong = plaintested.all_members(plaintested.bed_of(*case), [(0, ((), ()), (), (), (1,))])
        self.assertEqual(wrong, {4: {"answer"}})
        self.no(case, ("passes", tuple(sorted(members))))
        # In state 1 its ask is a surprise.
        closed = SYSTEM.with_pact(GET, read_pact(2, "state 0\n  get 1 -> 0 0\nstate 1"))
        case = (closed, till_test("get 0 twice -> 0", "call pay 1"), "pacts")
        members, wrong = plaintested.all_members(plaintested.bed_of(*case), [(0, ((), ()), (), (), (1,))])
        self.assertEqual(wrong, {2: {"surprise"}})
        self.no(case, ("passes", tuple(sorted(members))))

    def test_greater_tables_with_a_ring(self):
        # In state 1 it would be told lost for ever.
        moving = STUBBORN_TILL.with_pact(GET, read_pact(2, "state 0\n  get 1 -> 0 0\nstate 1\n  get 1 -> lost 1"))
        case = (moving, till_test("get 0 twice -> 0", "call pay 1"), "pacts")
        self.assertEqual(tested(*case)[0], "passes")
        members, wrong = plaintested.all_members(plaintested.bed_of(*case), [(0, ((), ()), (), (), (1,))])
        self.assertEqual(wrong, {})
        self.no(case, ("passes", tuple(sorted(members))))

    def test_endless_where_it_passes_beside_a_ring(self):
        for case in self.lasting:
            members, _ = plaintested.all_members(plaintested.bed_of(*case))
            bed = plaintested.bed_of(*case)
            self.no(case, ("passes", tuple(sorted(bed.shown(member) for member in members))))

    def test_members_by_their_form(self):
        case = self.passing[0]
        table = tested(*case)[1]
        still, waits, state = ((), ()), ((), (2, 0)), ((0, (2,)),)
        right = [(1, waits, (), ("answer", answer), state) for answer in (-1, 0)]
        self.assertIs(shows_tested(*case, ("passes", tuple(sorted(set(table) | {right[1]})))), True)
        wrong = [
            (3, still, (), (), state), (-1, still, (), (), state), (2, waits, ("shop", "get", 0), (), state),
            (2, still, (), ("call",), state), (2, waits, (), ("answer", 0), state), (1, still, (), ("answer", 0), state),
            (1, still, ("shop", "get", 0), (), state), (1, waits, (), (), state), (1, waits, ("shop", "get", 0), ("call",), state),
            (1, waits, ("bank", "get", 0), (), state), (1, waits, ("shop", "fill", 0), (), state), (1, waits, ("shop", "get", 2), (), state),
            (1, waits, (), ("call",), state), (1, waits, (), ("answer", 2), state), (1, waits, (), ("answer", -3), state),
            (1, waits, (), ("answer",), state), (1, waits, (), ("call", 0), state), (1, waits, (), ("Answer", 0), state), (1, ((), (3, 0)), ("shop", "get", 0), (), state), (2, still, (), (), ((1, (2,)),)),
            (2, still, (), (), ((0, (3,)),)), (2, still, (), (), ((0, (-1,)),)), (2, still, (), (), ((0, (2, 0)),)),
            (2, still, (), (), ((0, (2,)), (0, (2,)))), (2, still, (), (), ()), (2, still, (), (), (0,)), (2, still, (), ()),
            (2, ((0,), ()), (), (), state), (1, waits, (("till", "shop"), "get", 0), (), state),
        ]
        for member in wrong:
            try:
                other = tuple(sorted(set(table) | {member}))
            except TypeError:
                other = table + (member,)
            self.no(case, ("passes", other))
        self.assertIs(shows_tested(*case, ("passes", tuple(sorted(set(table) | {(1, waits, ("shop", "get", 0), (), state)})))), True)

    def test_places_and_uses_by_their_form(self):
        rows = "get 0 once -> 0, 1\nget 1 often -> 1, 0, 1"
        for order, places in (("", (0,)), ("in order\n", (0, 1))):
            case = (SYSTEM, till_test(order + rows, "call pay 0"), "standins")
            table = tested(*case)[1]
            self.assertEqual(len(table), 5)
            for place in range(-1, 3):
                for one, two in product(range(-1, 5), repeat=2):
                    more = (1, ((), ()), (), (), ((place, (one, two)),))
                    right = place in places and 0 <= one <= 2 and 0 <= two <= 3
                    value = ("passes", tuple(sorted(set(table) | {more})))
                    self.assertIs(shows_tested(*case, value), right, (order, more))

    def test_real_members_by_their_form(self):
        case = self.passing[2]
        table = tested(*case)[1]
        still, waits, full, empty = ((), ()), ((), (2, 1)), ((1,), ()), ((0,), ())
        pay, get = (PAY, "pay", 1), (GET, "get", 1)
        wrong = [
            (2, (still, full), (), ()), (-1, (still, full), (), ()), (1, (still, full), (pay,), ()), (0, (waits, full), (), ()),
            (0, (still, full), ((PAY, "pay", 0),), ()), (0, (still, full), ((("", "shop"), "get", 1),), ()), (0, (still, full), (get,), ()),
            (0, (waits, full), (pay, (GET, "fill", 1)), ()), (0, (waits, full), (pay, (GET, "get", 2)), ()),
            (0, (still, empty), (pay,), (GET, 1)), (0, (waits, empty), (pay,), (GET, 2)), (0, (waits, empty), (pay,), (PAY, 1)),
            (0, (waits, empty), (), (GET, 1)), (0, (waits, full), (pay, get), (GET, 1)), (0, (still,), (), ()), (1, (still, full), ()),
            (1, (full, still), (), ()), (0, (waits, empty), (pay,), (GET, 1), (0, 0, 0)), (1, (waits, full), (pay, get), ()),
            (1, (waits, empty), (pay,), (GET, 1)),
        ]
        for member in wrong:
            try:
                other = tuple(sorted(set(table) | {member}))
            except TypeError:
                other = table + (member,)
            self.no(case, ("passes", other))
        # The shop may be as no run leaves it.
        more = {(1, (still, full), (), ())}
        self.assertIs(shows_tested(*case, ("passes", tuple(sorted(set(table) | more)))), True)
        self.no(case, ("passes", tuple(sorted(set(table) | {(0, (waits, full), (pay,), (GET, 0))}))))

    def test_the_call_of_the_test_is_the_first_of_the_stack(self):
        # What comes behind the call of another test is closed as well, but stands in no table of this one.
        stand_in = "get any often -> 0"
        one, other = till_test(stand_in, "call pay 1"), till_test(stand_in, "call pay 0")
        tables = [tested(SYSTEM, test, "real")[1] for test in (one, other)]
        both = tuple(sorted(set(tables[0]) | set(tables[1])))
        self.assertGreater(len(both), len(tables[0]))
        for test, table in zip((one, other), tables):
            self.assertIs(shows_tested(SYSTEM, test, "real", ("passes", table)), True)
            self.assertIs(shows_tested(SYSTEM, test, "real", ("passes", both)), False)
        # Behind the same calls in another sequence, by what was answered so far.
        calls = ("call pay 1", "call pay 0")
        one, other = till_test(stand_in, *calls), till_test(stand_in, *calls[::-1])
        self.assertEqual([tested(SYSTEM, test, "real")[0] for test in (one, other)], ["passes"] * 2)
        both = tuple(sorted(set(tested(SYSTEM, one, "real")[1]) | set(tested(SYSTEM, other, "real")[1])))
        self.assertIs(shows_tested(SYSTEM, one, "real", ("passes", both)), False)

    def test_longer_runs(self):
        dice = SYSTEM.with_part("till", Part(2, "cell n 0\nport shop\ndoor pay\n  draw n\n  if n = 0\n    fail\n  ask shop get 0\n  fail"))
        case = (dice, till_test("get any often -> 0", "call pay 0 -> any"), "standins")
        pay, lost = (PAY, "call", "pay", 0), (PAY, "answer", -1)
        ask = ((GET, "call", "get", 0), (GET, "answer", 0))
        self.assertEqual(tested(*case), ("fails", (pay, lost), "answer"))
        self.assertIs(shows_tested(*case, ("fails", (pay,) + ask + (lost,), "answer")), True)
        for run in ((pay,) + ask, (pay,), (pay, lost, pay), (lost,), (), (pay,) + ask + ask + (lost,), (pay, (PAY, "answer", 0)),
                    (pay, (PAY, "answer", -2)), [pay, lost], (pay, list(lost))):
            self.no(case, ("fails", run, "answer"))

    def test_words(self):
        for case in self.failing:
            _, run, word = tested(*case)
            for other in ("surprise", "answer", "missing", "Answer", ""):
                if other != word:
                    self.no(case, ("fails", run, other))
            for at in range(len(run)):
                self.no(case, ("fails", run[:at], word))
            self.no(case, ("fails", run + run[-1:], word))

    def test_rings(self):
        for case in self.lasting:
            _, run, ring = tested(*case)
            for right in (("endless", run, ring * 2), ("endless", run + ring, ring), ("endless", run + ring[:1], ring[1:] + ring[:1])):
                self.assertIs(shows_tested(*case, right), True)
            for wrong in (("endless", run, ()), ("endless", run, ring[:-1]), ("endless", run, ring + ring[:1]), ("endless", run + ring[:1], ring),
                          ("endless", ring, ring), ("endless", run[:-1], ring), ("endless", run, list(ring)), ("endless", list(run), ring),
                          ("endless", run, run), ("endless", run, ring[::-1])):
                self.no(case, wrong)

    def test_rings_that_lead_to_other_members_first(self):
        # It draws while it goes round: the events are alike, the cells are not.
        part = Part(2, "cell n 0\ncell m 0\nport shop\ndoor pay\n  ask shop get 0\n  while lost\n    ask shop get 0\n    add n 1\n"
                       "    if n = 0\n      add m 1\n  answer 0")
        case = (SYSTEM.with_part("till", part), till_test("get 0 often -> lost", "call pay 0"), "standins")
        word, run, ring = tested(*case)
        pair = ((GET, "call", "get", 0), (GET, "answer", -1))
        self.assertEqual((word, len(ring)), ("endless", 8))
        short = ("endless", ((PAY, "call", "pay", 0),), pair)
        self.assertIs(shows_tested(*case, short), True)

    def test_a_ring_that_ends(self):
        # Four times round, and no more.
        part = Part(4, "cell n 0\nport shop\ndoor pay\n  while n != 3\n    ask shop get 0\n    add n 1\n  answer 0")
        system = System(SYSTEM.text.replace("worths 2", "worths 4")).with_part("till", part)
        case = (system, till_test("get 0 often -> lost", "call pay 0"), "standins")
        pair = ((GET, "call", "get", 0), (GET, "answer", -1))
        self.assertEqual(tested(*case)[0], "passes")
        self.no(case, ("endless", ((PAY, "call", "pay", 0),), pair))

    def test_of_endless_nothing_can_go_wrong(self):
        case = (STUBBORN_TILL, till_test("get 0 often -> lost\nget 1 often -> 0", "call pay 0"), "standins")
        _, run, ring = tested(*case)
        wrong = (STUBBORN_TILL, till_test("get 0 often -> lost\nget 1 often -> 0", "call pay 1 -> 1", "call pay 0"), "standins")
        self.assertEqual(tested(*wrong)[0], "fails")
        dice = Part(2, "cell n 0\nport shop\ndoor pay\n  draw n\n  if n = 0\n    fail\n  ask shop get it\n  while lost\n    ask shop get it\n"
                       "  answer got")
        both = (SYSTEM.with_part("till", dice), till_test("get 0 often -> lost", "call pay 0 -> any"), "standins")
        self.assertEqual(tested(*both)[0], "fails")
        self.no(both, ("endless", run, ring))
        self.assertIs(shows_tested(both[0], till_test("get 0 often -> lost", "call pay 0"), "standins", ("endless", run, ring)), True)


# It draws three cells, and asks often: there are many members.
MANY_PART = ("cell a 0\ncell b 0\ncell c 0\nport p\ndoor x\n  draw a\n  draw b\n  draw c\n  ask p x a\n  ask p x b\n  ask p x c\n"
             "  ask p x it\n  answer 0")


def many_system(part=MANY_PART):
    below = "\n".join("  " + row for row in part.split("\n"))
    return System(f"worths 4\npart a\n{below}\npart b\n  door x\n    answer 0\nwire a p b\n  state 0\n    x any -> any 0, lost 0, busy 0\n"
                  "outer a\n  state 0\n    x 0 -> 0 0")


class TooMany(unittest.TestCase):
    def table(self, system, test, beside):
        bed = plaintested.bed_of(system, test, beside)
        members, wrong = plaintested.all_members(bed)
        self.assertEqual(wrong, {})
        return "passes", tuple(sorted(bed.shown(member) for member in members))

    def test_tables(self):
        system = many_system()
        few = test_of("part a", "stand in p", "  x any often -> 0", "call x 0", "call x 0", "call x 0")
        many = test_of("part a", "stand in p", "  x any often -> 0", *["call x 0", "call x 1"] * 4)
        for beside in BESIDES:
            for test in (few, many):
                table = self.table(system, test, beside)
                if len(table[1]) > 4000:
                    self.assertEqual(told(lambda: tested(system, test, beside)), ("TooMany", 4000))
                else:
                    self.assertEqual(tested(system, test, beside), table)
                self.assertIs(shows_tested(system, test, beside, table), True)
                self.assertIs(shows_tested(system, test, beside, ("passes", table[1][:-1])), False)
                self.assertEqual(len(table[1]) > 4000, test is many or beside == "pacts")

    def test_runs_ahead_of_which_more_come(self):
        system = many_system()
        calls = ["call x 0", "call x 1"] * 3
        for beside in BESIDES:
            late = test_of("part a", "stand in p", "  x any often -> 0", *calls, "call x 0 -> lost")
            early = test_of("part a", "stand in p", "  x any often -> 0", "call x 0 -> lost", *calls)
            self.assertEqual(tested(system, early, beside)[::2], ("fails", "answer"))
            self.assertEqual(told(lambda: tested(system, late, beside)), ("TooMany", 4000))
            bed = plaintested.bed_of(system, late, beside)
            one = calls_through(bed)
            self.assertIs(shows_tested(system, late, beside, ("fails", one, "answer")), True)

    def test_endless(self):
        system = many_system(MANY_PART.replace("  ask p x it\n  answer 0", "  ask p x 0\n  while lost\n    ask p x 0"))
        test = test_of("part a", "stand in p", "  x any often -> 0", "call x 0")
        word, run, ring = tested(system, test, "pacts")
        self.assertEqual(word, "endless")
        more = test_of("part a", "stand in p", "  x any often -> 0", *["call x 0"] * 4)
        self.assertEqual(told(lambda: tested(system, more, "pacts")), ("TooMany", 4000))
        self.assertIs(shows_tested(system, more, "pacts", (word, run, ring)), True)

    def test_untrue_takes_more(self):
        system = many_system().with_pact(("a", "p"), read_pact(4, "state 0\n  x any -> 0 0"))
        test = test_of("part a", "stand in p", "  x any often -> 0", *["call x 0", "call x 1"] * 4)
        self.assertEqual(told(lambda: tested(system, test, "standins")), ("TooMany", 4000))
        self.assertIsNone(untrue(system, test))


def calls_through(bed):
    """The events of one way through a whole test, up to what goes wrong."""
    member, events = bed.first(), []
    while not isinstance(member, str):
        event, member = bed.moves(member)[-1]
        events.append(event)
    return tuple(events)


def is_reached(system, start, name):
    """Whether a part is another one, or is reached from it."""
    met, left = set(), [start]
    while left:
        part = left.pop()
        if part not in met:
            met.add(part)
            left += [system.offerer(wire) for wire in system.wires if wire[0] == part]
    return name in met


class Guarantee(unittest.TestCase):
    def test_what_passes_beside_the_pacts(self):
        # Guarantee (f).
        passed, lasted, left_out = 0, 0, 0
        systems = kept_systems(200, 5000) + [system for system in map(random_system, range(7000, 7200))] + [SYSTEM, LUCKY, SOLD] * 5
        for seed, system in enumerate(systems):
            draw = Random(seed)
            for _ in range(4):
                test = plaintested.random_test(draw, system)
                if tested(system, test, "pacts")[0] != "passes" or not system.part(test.name).ports:
                    continue
                others = [name for name in system.parts if name != test.name]
                asked = [system.offerer((test.name, port)) for port in system.part(test.name).ports]
                keep = all(keeps(system, name)[0] == "keeps" for name in others)
                if not keep or any(is_reached(system, name, test.name) for name in asked):
                    left_out += 1
                    continue
                word = tested(system, test, "real")[0]
                self.assertIn(word, ("passes", "endless"))
                if "endless" not in [most(system, name)[0] for name in others]:
                    self.assertEqual(word, "passes")
                passed += word == "passes"
                lasted += word == "endless"
        self.assertGreater(passed, 80)
        self.assertGreater(left_out, 20)

    def test_a_real_part_may_last_for_ever(self):
        # The one that is asked asks again and again; beside the pact it answers.
        system = System(
            "worths 2\npart a\n  port p\n  door x\n    ask p x 0\n    answer got\npart b\n  port p\n  door x\n    ask p x 0\n"
            "    while lost\n      ask p x 0\n    answer 1\npart c\n  door x\n    fail\nwire a p b\n  state 0\n    x 0 -> 1 0\n"
            "wire b p c\n  state 0\n    x 0 -> any 0, lost 0\nouter a\n  state 0\n    x 0 -> 1 0")
        test = test_of("part a", "stand in p", "  x 0 once -> 1", "call x 0 -> 1")
        self.assertEqual([tested(system, test, beside)[0] for beside in BESIDES], ["passes", "passes", "endless"])
        self.assertEqual([most(system, name)[0] for name in "abc"], ["most", "endless", "most"])

    def test_a_part_that_is_reached_from_one_that_it_asks(self):
        # Beside the real parts it is asked amid; the pact of its port does not tell that.
        system = RING.with_pact(COME, read_pact(2, "state 0\n  come 0 -> 0 0"))
        test = test_of("part a", "stand in q", "  come 0 once -> 0", "call go 0 -> 0")
        self.assertEqual([tested(system, test, beside)[0] for beside in BESIDES], ["passes", "passes", "fails"])


class StandInsOfTests(unittest.TestCase):
    def test_a_stand_in_and_its_pact(self):
        # Beside the pact of its stand-in a part is surprised just where it is beside the stand-in itself.
        for system, test in CASES[:150]:
            _, stubs, _ = plaintested.read_parts(test.text)
            if len(stubs) != 1 or system.worths != 2:
                continue
            port, text = list(stubs.items())[0]
            doors = tuple(sorted(system.part(system.offerer((test.name, port))).doors))
            other = system.with_pact((test.name, port), pact_of(2, doors, text))
            one, two = tested(system, test, "standins"), tested(other, test, "pacts")
            if one[0] == "passes" or one[2] != "missing":
                self.assertEqual(one[0], two[0])
                if one[0] == "fails":
                    self.assertEqual((len(one[1]), one[2]), (len(two[1]), two[2]))

    def test_pact_helper(self):
        self.assertEqual(len(pact("get 0 once -> 1")), 2)
        self.assertRaises(BadText, pact, "got 0 once -> 1")


if __name__ == "__main__":
    unittest.main()
