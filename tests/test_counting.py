import unittest
from random import Random

from tests import plainly, plainwhole
from tests.helping import ODD_VALUES, exactly, told
from tests.manysystems import kept_systems, random_system
from tests.test_keeping import BACK, COME, GET, GO, PAY, RING, SYSTEM, TIGHT, chain, with_truths
from tests.test_wholes import FILL, IDLE, LOOP, ROUND, counter
from truestandins.counting import asks, bound, most, shows_asks, shows_most
from truestandins.keeping import keeps
from truestandins.pacttexts import read_pact
from truestandins.parts import Part
from truestandins.systems import System
from truestandins.wholes import whole

STUBBORN = SYSTEM.with_part("till", Part(2, "port shop\ndoor pay\n  ask shop get it\n  while lost\n    ask shop get it\n  answer got"))
# It asks twice where it draws a 1, and once more where the first one is lost.
LUCKY = SYSTEM.with_part("till", Part(2, "cell n 0\nport shop\ndoor pay\n  draw n\n  if n = 0\n    answer 0\n  ask shop get 0\n"
                                         "  if lost\n    ask shop get 1\n  ask shop get it\n  answer 0"))


def beside(system, name):
    """Moves and first member of a part, and what its asks are."""
    return (lambda scene: plainly.events_at(system, name, scene), plainly.first_scene(system, name),
            lambda event: event[1] == "call" and event[0][0] == name)


def together(system):
    return (lambda moment: plainwhole.events_of(system, moment), plainwhole.first_moment(system),
            lambda event: event[1] == "call" and event[0][0] != "")


def members_of(ground, start=()):
    moves, first, _ = ground
    met, left = set(), [first] + list(start)
    while left:
        member = left.pop()
        if member is not None and member not in met:
            met.add(member)
            left += [later for _, later in moves(member)]
    return met


def plain_heights(ground, members):
    """The least heights of all members with a call open, None if there are none."""
    moves, _, is_ask = ground
    heights = {member: 0 for member in members if member[1] != ()}
    steps = {member: [(later, is_ask(event)) for event, later in moves(member) if later and later[1] != ()] for member in heights}
    changed = True
    while changed:
        changed = False
        for member in heights:
            wanted = max([heights[later] + ask for later, ask in steps[member]], default=0)
            if wanted > heights[member]:
                heights[member], changed = wanted, True
                if wanted > len(heights):
                    return None
    return heights


def runs_set_off(ground, run):
    """(whether it is a run that ends with the first open call answered, how many asks this call set off)."""
    moves, first, is_ask = ground
    members, many = [first], 0
    for event in run:
        if members[0][1] == ():
            many = 0
        members = [later for member in members for known, later in moves(member) if known == event and later is not None]
        if not members:
            return False, many
        many += is_ask(event)
    return run != () and members[0][1] == (), many


def leads_round(ground, run, ring):
    """Whether a run leads to a member with a call open, from which the ring leads back to it, with an ask in it."""
    moves, first, is_ask = ground
    members = [first]
    for event in run:
        members = [later for member in members for known, later in moves(member) if known == event and later is not None]
    for start in members:
        level = [start]
        for event in ring:
            level = [later for member in level for known, later in moves(member)
                     if known == event and later is not None and later[1] != ()]
        if start[1] != () and start in level and any(is_ask(event) for event in ring):
            return True
    return False


def check(test, ground, found):
    heights = plain_heights(ground, members_of(ground))
    if heights is None:
        test.assertEqual((found[0], len(found)), ("endless", 3))
        test.assertTrue(leads_round(ground, found[1], found[2]))
        return
    test.assertEqual((found[0], found[1], found[3]), ("most", max(heights.values(), default=0), tuple(sorted(heights.items()))))
    if heights:
        test.assertEqual(runs_set_off(ground, found[2]), (True, found[1]))
    else:
        test.assertEqual(found[2], ())


class Examples(unittest.TestCase):
    def test_as_they_stand(self):
        self.assertEqual([most(SYSTEM, "till")[:2], bound(SYSTEM), asks(SYSTEM)[1]], [("most", 1), ((FILL, 0), (PAY, 1)), 1])
        self.assertEqual([bound(RING), asks(RING)[1]], [((GO, 2),), 2])


class Most(unittest.TestCase):
    def test_heights(self):
        waits, get = ((), (2, 1)), (GET, "get", 1)
        pay, still = ((PAY, "pay", 1),), ((), ())
        one = SYSTEM.with_pact(PAY, read_pact(2, "state 0\n  pay 1 -> any 0, lost 0")).with_pact(
            GET, read_pact(2, "state 0\n  get any -> any 0, lost 0"))
        word, number, run, heights = most(one, "till")
        self.assertEqual((word, number, heights), ("most", 1, tuple(sorted([
            ((still, pay, (), ("call",), (0, 0)), 1), ((waits, pay, get, (), (0, 0)), 0),
            ((waits, pay, (), ("answer", -1), (0, 0)), 0), ((waits, pay, (), ("answer", 0), (0, 0)), 0),
            ((waits, pay, (), ("answer", 1), (0, 0)), 0)]))))
        self.assertEqual((run[:2], run[2][:2], run[3][:2]), (((PAY, "call", "pay", 1), (GET, "call", "get", 1)), (GET, "answer"),
                                                             (PAY, "answer")))

    def test_the_greatest_number(self):
        word, number, run, _ = most(LUCKY, "till")
        self.assertEqual((word, number), ("most", 3))
        self.assertEqual([event[1:] for event in run if event[0] == GET and event[1] == "answer"][0], ("answer", -1))
        never_lost = LUCKY.with_pact(GET, read_pact(2, "state 0\n  get any -> any 0"))
        self.assertEqual(most(never_lost, "till")[1], 2)

    def test_of_a_part_that_asks_nobody(self):
        word, number, run, heights = most(SYSTEM, "shop")
        self.assertEqual((word, number, len(run)), ("most", 0, 2))
        self.assertEqual(set(height for _, height in heights), {0})
        self.assertEqual(len(heights), len([scene for scene in keeps(SYSTEM, "shop")[1] if scene[1]]))

    def test_of_what_is_never_called(self):
        silent = SYSTEM.with_pact(PAY, ((),))
        self.assertEqual(most(silent, "till"), ("most", 0, (), ()))
        self.assertIs(shows_most(silent, "till", ("most", 0, (), ())), True)
        self.assertEqual(asks(SYSTEM.with_pact(PAY, ((),)).with_pact(FILL, ((),))), ("most", 0, (), ()))

    def test_of_a_later_call(self):
        # The first call sets off nothing: it asks once it was told 1.
        part = Part(2, "cell n 0\nport shop\ndoor pay\n  if n = 0\n    set n it\n    answer 0\n  ask shop get 0\n  answer 0")
        system = SYSTEM.with_part("till", part)
        word, number, run, heights = most(system, "till")
        self.assertEqual((word, number, len(run)), ("most", 1, 6))
        self.assertEqual(set(height for _, height in heights), {0, 1})

    def test_calls_amid_are_no_asks(self):
        self.assertEqual(most(RING, "a")[1], 1)
        table = keeps(RING, "a")[1]
        self.assertTrue([scene for scene in table if len(scene[1]) == 2])
        # They may come again and again, without an ask.
        moving = RING.with_pact(BACK, read_pact(2, "state 0\n  go 0 -> any 0, busy 1\nstate 1\n  go 0 -> any 1, busy 0"))
        self.assertEqual((keeps(moving, "a")[0], most(moving, "a")[1]), ("keeps", 1))
        check(self, beside(moving, "a"), most(moving, "a"))

    def test_asks_that_are_answered_busy_count(self):
        self.assertEqual(most(RING, "b")[1], 1)

    def test_endless(self):
        word, run, ring = most(STUBBORN, "till")
        self.assertEqual(word, "endless")
        self.assertTrue(leads_round(beside(STUBBORN, "till"), run, ring))
        never_lost = STUBBORN.with_pact(GET, read_pact(2, "state 0\n  get any -> any 0, busy 0"))
        self.assertEqual(most(never_lost, "till")[:2], ("most", 1))
        # Lost twice, and never more.
        twice = STUBBORN.with_pact(GET, read_pact(2, "state 0\n  get any -> 0 0, lost 1\nstate 1\n  get any -> 0 1, lost 2\nstate 2\n"
                                                     "  get any -> any 2"))
        self.assertEqual(most(twice, "till")[:2], ("most", 3))

    def test_many(self):
        words, numbers = {}, set()
        for system in kept_systems(150, 300) + [SYSTEM, RING, ROUND, LOOP, LUCKY, STUBBORN]:
            for name in system.parts:
                found = most(system, name)
                check(self, beside(system, name), found)
                words[found[0]] = words.get(found[0], 0) + 1
                numbers.add(found[1] if found[0] == "most" else None)
                self.assertIs(shows_most(system, name, found), True)
        self.assertGreater(min(words.values()), 15)
        self.assertTrue({0, 1, 2, 3, None} <= numbers)

    def test_errors(self):
        for value in ODD_VALUES:
            self.assertEqual(exactly(told(lambda: most(SYSTEM, value))), exactly(("NoPart", value)))
            self.assertEqual(exactly(told(lambda: shows_most(SYSTEM, value, None))), exactly(("NoPart", value)))
            self.assertEqual(exactly(told(lambda: most(TIGHT, value))), exactly(("NoPart", value)))
        self.assertEqual(told(lambda: most(TIGHT, "shop")), ("NotKept", "shop"))
        self.assertEqual(told(lambda: shows_most(TIGHT, "shop", None)), ("NotKept", "shop"))
        # Of this part alone.
        self.assertEqual(most(TIGHT, "till")[:2], ("most", 1))

    def test_arguments_by_name(self):
        self.assertEqual(most(name="till", system=SYSTEM), most(SYSTEM, "till"))
        self.assertIs(shows_most(value=most(SYSTEM, "till"), name="till", system=SYSTEM), True)
        self.assertEqual((bound(system=SYSTEM), asks(system=SYSTEM)), (bound(SYSTEM), asks(SYSTEM)))
        self.assertIs(shows_asks(value=asks(SYSTEM), system=SYSTEM), True)


class Asks(unittest.TestCase):
    def test_of_the_whole(self):
        # One at a, one at b, whose call back is answered busy.
        word, number, run, heights = asks(RING)
        self.assertEqual((word, number), ("most", 2))
        self.assertEqual(run, ((GO, "call", "go", 0), (COME, "call", "come", 0), (BACK, "call", "go", 0), (BACK, "answer", -2),
                               (COME, "answer", 1), (GO, "answer", 1)))
        self.assertEqual(sorted(height for _, height in heights), [0, 0, 0, 1, 2])
        self.assertEqual(asks(ROUND)[1], 3)

    def test_fewer_than_beside_pacts(self):
        # Beside its pact till could be told lost; the shop that is never empty does not.
        full = LUCKY.with_part("shop", Part(2, "door get\n  answer it\ndoor fill\n  answer 0"))
        self.assertEqual((most(full, "till")[1], asks(full)[1]), (3, 2))

    def test_endless(self):
        word, run, ring = asks(LOOP)
        self.assertEqual(word, "endless")
        self.assertTrue(leads_round(together(LOOP), run, ring))
        self.assertIs(shows_asks(LOOP, asks(LOOP)), True)
        # Once the shop is empty it says lost for ever.
        self.assertEqual(asks(STUBBORN)[0], "endless")
        self.assertEqual(asks(STUBBORN.with_part("shop", Part(2, "door get\n  answer it\ndoor fill\n  answer 0")))[:2], ("most", 1))

    def test_not_kept(self):
        self.assertEqual(told(lambda: asks(TIGHT)), ("NotKept", ""))
        self.assertEqual(told(lambda: shows_asks(TIGHT, None)), ("NotKept", ""))
        # The shop breaks, the whole does not.
        self.assertEqual(keeps(IDLE, "shop")[0], "breaks")
        self.assertEqual(asks(IDLE)[:2], ("most", 1))

    def test_many(self):
        words, numbers = {}, set()
        for system in [random_system(seed) for seed in range(300)] + [SYSTEM, RING, ROUND, LOOP, LUCKY, STUBBORN]:
            found = told(lambda: asks(system))
            if whole(system)[0] == "broken":
                self.assertEqual(found, ("NotKept", ""))
                continue
            check(self, together(system), found)
            words[found[0]] = words.get(found[0], 0) + 1
            numbers.add(found[1] if found[0] == "most" else None)
            self.assertIs(shows_asks(system, found), True)
        self.assertGreater(min(words.values()), 5)
        self.assertTrue({0, 1, 2, 3, None} <= numbers)


def plain_bound(system, name, waiting=()):
    if name in waiting:
        return 0
    offerers = [system.offerer(wire) for wire in system.wires if wire[0] == name]
    return most(system, name)[1] * (1 + max([plain_bound(system, other, waiting + (name,)) for other in offerers], default=0))


class Bound(unittest.TestCase):
    def test_of_a_line(self):
        # Three parts, each of which asks the next one over both of its ports.
        wires = [("a", "p", "b"), ("a", "q", "b"), ("b", "p", "c"), ("b", "q", "c")]
        line = chain("abc", wires, "ab")
        self.assertEqual([most(line, name)[1] for name in "abc"], [2, 2, 0])
        self.assertEqual(bound(line), ((("", "a"), 6), (("", "b"), 2)))
        self.assertEqual(asks(line)[1], 6)

    def test_the_greatest_of_those_that_are_asked(self):
        wires = [("a", "p", "b"), ("a", "q", "c"), ("c", "p", "d"), ("c", "q", "d")]
        self.assertEqual(bound(chain("abcd", wires, "a")), ((("", "a"), 6),))
        self.assertEqual(asks(chain("abcd", wires, "a"))[1], 4)

    def test_rings(self):
        self.assertEqual(bound(RING), ((GO, 2),))
        # Each one may ask those that do not wait.
        self.assertEqual(bound(ROUND), ((("", "a"), 3), (("", "b"), 3)))
        wires = [("a", "p", "b"), ("a", "q", "c"), ("b", "p", "a"), ("b", "q", "c")]
        self.assertEqual(bound(chain("abc", wires, "ab")), ((("", "a"), 6), (("", "b"), 6)))

    def test_none_where_one_is_endless(self):
        self.assertEqual(bound(STUBBORN), ((FILL, None), (PAY, None)))
        self.assertEqual(bound(LOOP), ((("", "a"), None),))
        # Also where the one that is endless is never come to by this wire.
        self.assertEqual(bound(STUBBORN.with_pact(PAY, ((),))), ((FILL, 0), (PAY, 0)))

    def test_not_kept_as_lived(self):
        self.assertEqual(told(lambda: bound(TIGHT)), ("NotKept", "shop"))
        self.assertEqual(told(lambda: bound(IDLE)), ("NotKept", "shop"))
        both = TIGHT.with_pact(PAY, read_pact(2, "state 0\n  pay any -> lost 0"))
        self.assertEqual(told(lambda: bound(both)), ("NotKept", "till"))

    def test_many(self):
        numbers = set()
        for system in kept_systems(120, 900):
            found = bound(system)
            self.assertEqual(tuple(wire for wire, _ in found), tuple(wire for wire in system.wires if wire[0] == ""))
            if "endless" in [most(system, name)[0] for name in system.parts]:
                self.assertEqual(set(number for _, number in found), {None})
            else:
                self.assertEqual(found, tuple((wire, plain_bound(system, wire[1])) for wire, _ in found))
            numbers.update(number for _, number in found)
        self.assertTrue({None, 0, 1, 2, 3, 4, 5, 8} <= numbers)

    def test_no_call_sets_off_more(self):
        # Guarantee (g).
        reached = 0
        for system in kept_systems(200, 2000) + [SYSTEM, RING, ROUND, LUCKY]:
            found, told_bound = asks(system), dict(bound(system))
            if found[0] == "endless":
                self.assertEqual(set(told_bound.values()), {None})
                continue
            for moment, height in found[3]:
                if len(moment[1]) == 1 and moment[2] == () and not [inner for inner in moment[0] if inner[1]]:
                    number = told_bound[moment[1][0][0]]
                    self.assertTrue(number is None or height <= number)
                    reached += height == number != 0
        self.assertGreater(reached, 50)


def cases():
    found = [(lambda value, system=system, name=name: shows_most(system, name, value), beside(system, name), most(system, name))
             for system, name in ((SYSTEM, "till"), (SYSTEM, "shop"), (RING, "a"), (RING, "b"), (LUCKY, "till"), (ROUND, "a"))]
    return found + [(lambda value, system=system: shows_asks(system, value), together(system), asks(system))
                    for system in (SYSTEM, RING, LUCKY, ROUND)]


CASES = cases()
LASTING = [(lambda value: shows_most(STUBBORN, "till", value), beside(STUBBORN, "till"), most(STUBBORN, "till")),
           (lambda value: shows_asks(STUBBORN, value), together(STUBBORN), asks(STUBBORN)),
           (lambda value: shows_asks(LOOP, value), together(LOOP), asks(LOOP)),
           (lambda value: shows_most(LOOP, "b", value), beside(LOOP, "b"), most(LOOP, "b"))]


def raised_heights(ground, heights):
    """The least heights that are so, none of them below what is told."""
    moves, _, is_ask = ground
    heights = dict(heights)
    for _ in heights:
        for member in heights:
            wanted = [heights[later] + is_ask(event) for event, later in moves(member) if later[1] != ()]
            heights[member] = max(wanted + [heights[member]])
    return heights


class Shows(unittest.TestCase):
    def test_what_is_told(self):
        for shows, _, found in CASES + LASTING:
            self.assertIs(shows(found), True)

    def test_any_value(self):
        for shows, _, found in CASES + LASTING:
            for value in ODD_VALUES:
                for other in (value, (value,) + found[1:], found + (value,), ("most", value, found[2], found[-1]), ("endless", value, value),
                              ("endless", (), (value,)), ("endless", found[1], (value,)), ("most", 0, value, value),
                              ("most", 1, found[2], (value,)), ("most", 1, (value,), found[-1]), found[:-1] + (value,),
                              found[:-1] + (found[-1] + (value,),), found[:-1] + ((value,) + found[-1],)):
                    if exactly(other) != exactly(found):
                        self.assertIs(shows(other), False)
            self.assertIs(shows(list(found)), False)
            self.assertIs(shows(found[:-1] + (list(found[-1]),)), False)
            self.assertIs(shows(found[:-1] + (tuple(list(row) for row in found[-1]),)), False)
            self.assertIs(shows(("Most",) + found[1:]), False)

    def test_truths_in_the_places_of_numbers(self):
        for shows, _, found in CASES + LASTING:
            for other in with_truths(found):
                self.assertIs(shows(other), False)

    def test_any_value_in_each_place_of_a_row(self):
        for shows, _, found in CASES[:3] + CASES[6:8]:
            heights = found[3]
            for at, (member, height) in enumerate(heights):
                for value in ODD_VALUES:
                    rows = [(member[:place] + (value,) + member[place + 1:], height) for place in range(len(member))]
                    for row in rows + [(value, height), (member, value), (member, height, value)]:
                        if exactly(row) != exactly(heights[at]):
                            self.assertIs(shows(found[:3] + (heights[:at] + (row,) + heights[at + 1:],)), False)

    def test_other_numbers(self):
        for shows, _, found in CASES:
            for number in (-1, found[1] - 1, found[1] + 1, 99):
                self.assertIs(shows(("most", number) + found[2:]), False)

    def test_nearly_right_heights(self):
        for shows, _, found in CASES:
            heights = found[3]
            for at, (member, height) in enumerate(heights):
                self.assertIs(shows(found[:3] + (heights[:at] + heights[at + 1:],)), False)
                self.assertIs(shows(found[:3] + (heights[:at] + (heights[at],) + heights[at:],)), False)
                for other in (height - 1, -1, found[1] + 1):
                    self.assertIs(shows(found[:3] + (heights[:at] + ((member, other),) + heights[at + 1:],)), False)
                both = tuple(sorted(heights + ((member, height + 1),)))
                self.assertIs(shows(found[:3] + (both,)), False)
            if len(heights) > 1:
                self.assertIs(shows(found[:3] + (heights[::-1],)), False)
            self.assertIs(shows(found[:3] + ((),)), False)

    def test_greater_heights(self):
        greater = 0
        for shows, ground, found in CASES:
            draw = Random(1)
            moves, _, is_ask = ground
            for _ in range(30):
                told_heights = dict(found[3])
                member = draw.choice(sorted(told_heights))
                told_heights[member] = draw.randint(told_heights[member], found[1])
                right = all(
                    told_heights[member] >= told_heights[later] + is_ask(event)
                    for member in told_heights for event, later in moves(member) if later[1] != ())
                self.assertIs(shows(found[:3] + (tuple(sorted(told_heights.items())),)), right)
                raised = raised_heights(ground, told_heights)
                self.assertIs(shows(found[:3] + (tuple(sorted(raised.items())),)), max(raised.values()) <= found[1])
                greater += raised != dict(found[3]) and max(raised.values()) <= found[1]
        self.assertGreater(greater, 5)

    def test_further_members(self):
        # Where the part is never told lost, it may be told how high it stood then.
        never_lost = LUCKY.with_pact(GET, read_pact(2, "state 0\n  get any -> any 0"))
        found, ground = most(never_lost, "till"), beside(never_lost, "till")
        more = [scene for scene in members_of(beside(LUCKY, "till")) if scene[1] and scene not in dict(found[3])]
        self.assertTrue(more)
        low = [scene for scene in more if plain_heights(ground, members_of(ground, [scene]))[scene] <= found[1]]
        for scene in low:
            heights = plain_heights(ground, members_of(ground, [scene]))
            self.assertIs(shows_most(never_lost, "till", found[:3] + (tuple(sorted(heights.items())),)), True)
            heights[scene] -= 1
            self.assertIs(shows_most(never_lost, "till", found[:3] + (tuple(sorted(heights.items())),)), False)
            del heights[scene]
            self.assertIs(shows_most(never_lost, "till", found[:3] + (tuple(sorted(heights.items())),)), True)
        self.assertTrue(low)

    def test_no_further_member_stands_above_the_number(self):
        # Beside this pact it is told lost just once; behind one that it was not told it could ask more.
        system = STUBBORN.with_pact(GET, read_pact(2, "state 0\n  get any -> 0 0\nstate 1\n  get any -> lost 2\nstate 2\n  get any -> 0 2"))
        found, ground = most(system, "till"), beside(system, "till")
        self.assertEqual(found[:2], ("most", 1))
        scene = (((), ()), ((PAY, "pay", 0),), (), ("call",), (0, 1))
        heights = plain_heights(ground, members_of(ground, [scene]))
        self.assertEqual(heights[scene], 2)
        self.assertIs(shows_most(system, "till", found[:3] + (tuple(sorted(heights.items())),)), False)

    def test_members_by_their_form(self):
        found = most(SYSTEM, "till")
        still, waits = ((), ()), ((), (2, 1))
        pay = ((PAY, "pay", 1),)
        for scene in ((still, (), (), (), (0, 0)), (still, pay, (), (), (0, 0)), (waits, pay, (), (), (0, 0)),
                      (waits, pay, (GET, "fill", 1), (), (0, 0)), (still, pay, (), ("call",), (0, 1)), (still, pay, (), ("call",), (0,)),
                      (still, ((PAY, "pay", 2),), (), ("call",), (0, 0)), (waits, pay, (), ("answer", 2), (0, 0))):
            self.assertIs(shows_most(SYSTEM, "till", found[:3] + (tuple(sorted(found[3] + ((scene, 0),))),)), False)
        busy = (waits, pay, (), ("answer", -2), (0, 0))
        self.assertIs(shows_most(SYSTEM, "till", found[:3] + (tuple(sorted(found[3] + ((busy, 0),))),)), True)
        moments = asks(SYSTEM)
        full = ((1,), ())
        for moment in (((still, full), (), (), (0, 0, 0)), ((still, full), ((PAY, "pay", 2),), (), (0, 0, 0)),
                       ((waits, full), ((PAY, "pay", 1), (GET, "fill", 0)), (), (0, 0, 0)), ((waits, waits), pay, (), (0, 0, 0))):
            self.assertIs(shows_asks(SYSTEM, moments[:3] + (tuple(sorted(moments[3] + ((moment, 0),))),)), False)
        given = ((waits, full), pay, (GET, -2), (0, 0, 0))
        self.assertIs(shows_asks(SYSTEM, moments[:3] + (tuple(sorted(moments[3] + ((given, 0),))),)), True)

    def test_members_at_rest_have_no_height(self):
        for shows, ground, found in CASES:
            for rest in [member for member in members_of(ground) if member[1] == ()]:
                for height in (0, found[1]):
                    rows = tuple(sorted(found[3] + ((rest, height),)))
                    self.assertIs(shows(found[:3] + (rows,)), False)

    def test_where_a_further_member_breaks_the_pact(self):
        # No table is closed in which an event that is not let can come.
        strict = SYSTEM.with_pact(PAY, read_pact(2, "state 0\n  pay any -> any 0")).with_pact(GET, read_pact(2, "state 0\n  get any -> any 0"))
        found = most(strict, "till")
        lost = (((), (2, 1)), ((PAY, "pay", 1),), (), ("answer", -1), (0, 0))
        self.assertIs(shows_most(strict, "till", found[:3] + (tuple(sorted(found[3] + ((lost, 0),))),)), False)

    def test_runs(self):
        for shows, ground, found in CASES:
            run = found[2]
            for at in range(len(run)):
                self.assertIs(shows(found[:2] + (run[:at],) + found[3:]), False)
            # Its call once more, if it can come so, or another one behind it that sets off fewer.
            for other in (run + run, run + run[:1], run[1:], run + run[:2], list(run), run[:-1] + run[-1:] * 2):
                right, many = runs_set_off(ground, tuple(other))
                self.assertIs(shows(found[:2] + (other,) + found[3:]), right and many == found[1] and isinstance(other, tuple))

    def test_runs_with_calls_ahead(self):
        found = most(SYSTEM, "till")
        self.assertIs(shows_most(SYSTEM, "till", found[:2] + (found[2] * 3,) + found[3:]), True)
        lucky = most(LUCKY, "till")
        nothing = ((PAY, "call", "pay", 0), (PAY, "answer", 0))
        self.assertIs(shows_most(LUCKY, "till", lucky[:2] + (nothing + lucky[2],) + lucky[3:]), True)
        self.assertIs(shows_most(LUCKY, "till", lucky[:2] + (lucky[2] + nothing,) + lucky[3:]), False)
        self.assertIs(shows_most(LUCKY, "till", lucky[:2] + (nothing,) + lucky[3:]), False)

    def test_a_run_of_nothing_where_it_is_called(self):
        found = most(SYSTEM, "shop")
        self.assertEqual(found[1], 0)
        self.assertIs(shows_most(SYSTEM, "shop", found[:2] + ((),) + found[3:]), False)
        silent = SYSTEM.with_pact(PAY, ((),))
        for other in (("most", 0, most(SYSTEM, "till")[2], ()), ("most", 1, (), ()), ("most", -1, (), ()), ("most", 0, [], ())):
            self.assertIs(shows_most(silent, "till", other), False)

    def test_rings(self):
        for shows, ground, found in LASTING:
            _, run, ring = found
            for right in (("endless", run, ring * 2), ("endless", run + ring, ring), ("endless", run + ring[:1], ring[1:] + ring[:1])):
                self.assertIs(shows(right), True)
            for wrong in (("endless", run, ()), ("endless", run, ring[:-1]), ("endless", (), ring), ("endless", run, run),
                          ("endless", run, ring + ring[:1]), ("endless", run + ring[:1], ring), ("most", run, ring)):
                self.assertIs(shows(wrong), False)

    def test_rings_without_an_ask(self):
        moving = STUBBORN_RING
        word, run, ring = most(moving, "a")
        self.assertEqual(word, "endless")
        busy = ((BACK, "call", "go", 0), (BACK, "answer", -2))
        behind_ask = ((GO, "call", "go", 0), (COME, "call", "come", 0))
        again = ((COME, "answer", -1), (COME, "call", "come", 0))
        self.assertIs(shows_most(moving, "a", ("endless", behind_ask, busy)), False)
        self.assertIs(shows_most(moving, "a", ("endless", behind_ask + again, busy + again)), True)
        self.assertIs(shows_most(moving, "a", ("endless", behind_ask + again, busy)), False)

    def test_rings_through_the_answer(self):
        # It comes back to the same scene, but the call was answered meanwhile.
        system = SYSTEM.with_pact(PAY, read_pact(2, "state 0\n  pay 1 -> any 0, lost 0"))
        once = ((PAY, "call", "pay", 1), (GET, "call", "get", 1), (GET, "answer", 1), (PAY, "answer", 1))
        for at in range(4):
            self.assertIs(shows_most(system, "till", ("endless", once[:at], once[at:] + once[:at])), False)
            self.assertIs(shows_most(system, "till", ("endless", once + once[:at], once[at:] + once[:at])), False)

    def test_a_ring_that_leads_to_another_scene_first(self):
        # The events are alike each time round; it comes back to its scene by two rounds alone.
        part = Part(2, "cell n 0\nport shop\ndoor pay\n  ask shop get it\n  while lost\n    ask shop get it\n    add n 1\n  answer got")
        system = SYSTEM.with_part("till", part)
        _, run, ring = most(system, "till")
        self.assertEqual(len(ring), 4)
        pair = ((GET, "call", "get", 0), (GET, "answer", -1))
        start = ((PAY, "call", "pay", 0),) + pair * 2
        self.assertIs(shows_most(system, "till", ("endless", start, pair * 2)), True)
        self.assertIs(shows_most(system, "till", ("endless", start, pair)), False)


# A part of a ring of two that asks again where it was told lost.
STUBBORN_RING = RING.with_part("a", Part(2, "port q\ndoor go\n  ask q come 0\n  while lost\n    ask q come 0\n  answer got")).with_pact(
    COME, read_pact(2, "state 0\n  come 0 -> any 0, lost 0"))


class TooMany(unittest.TestCase):
    def test_scenes(self):
        system = counter([9] * 400)
        found = most(system, "a")
        self.assertEqual((found[:2], len(found[3])), (("most", 0), 3600))
        more = counter([10] + [9] * 399)
        self.assertEqual(told(lambda: most(more, "a")), ("TooMany", 4000))
        self.assertEqual(told(lambda: bound(more)), ("TooMany", 4000))
        self.assertEqual(told(lambda: asks(more)), ("TooMany", 4000))
        self.assertEqual((asks(system)[:2], len(asks(system)[3])), (("most", 0), 3600))
        heights = tuple(sorted((scene, 0) for scene in members_of(beside(more, "a")) if scene[1]))
        self.assertIs(shows_most(more, "a", found[:3] + (heights,)), True)
        self.assertIs(shows_most(more, "a", found[:3] + (heights[1:],)), False)
        moments = tuple(sorted((moment, 0) for moment in members_of(together(more)) if moment[1]))
        self.assertIs(shows_asks(more, asks(system)[:3] + (moments,)), True)
        self.assertIs(shows_asks(more, asks(system)[:3] + (moments[1:],)), False)

    def test_what_is_raised_first(self):
        # The first part has too many scenes, the second one breaks; and the other way round.
        many = counter([10] + [9] * 399).text
        broken = "part {}\n  door x\n    fail\n"
        wide = System(many.replace("outer a", broken.format("b") + "outer b\n  state 0\n    x 0 -> 0 0\nouter a"))
        self.assertEqual(told(lambda: bound(wide)), ("TooMany", 4000))
        self.assertEqual(told(lambda: most(wide, "b")), ("NotKept", "b"))
        other = System(many.replace("part a\n", broken.format("b") + "part a\n").replace("outer a", "outer b\n  state 0\n    x 0 -> 0 0\nouter a"))
        self.assertEqual(told(lambda: bound(other)), ("NotKept", "b"))

    def test_not_kept_is_looked_for_without_this_limit(self):
        system = counter([12] * 400)
        text = system.text.replace("    a 0 -> 0 0\n", "    a 0 -> 1 0\n")
        self.assertNotEqual(text, system.text)
        late = System(text)
        self.assertEqual(told(lambda: most(late, "a")), ("TooMany", 4000))
        self.assertEqual(told(lambda: shows_most(late, "a", None)), ("NotKept", "a"))
        self.assertEqual(told(lambda: shows_asks(late, None)), ("NotKept", ""))


if __name__ == "__main__":
    unittest.main()
