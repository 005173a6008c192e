import unittest
from random import Random

from tests import plainly
from tests.helping import ODD_VALUES, exactly, told
from tests.manysystems import kept_systems, other_edition, random_system, telling_systems
from tests.test_keeping import BACK, COME, GET, GO, PAY, RING, SYSTEM, with_truths
from truestandins.catching import found_out, shows_found_out
from truestandins.pacttexts import read_pact
from truestandins.parts import Part
from truestandins.systems import System

FILL = ("", "shop")
TILL, SHOP = SYSTEM.part("till"), SYSTEM.part("shop")
JUST = SYSTEM.with_pact(GET, read_pact(2, "state 0\n  get 0 -> 0 0, lost 0\n  get 1 -> 1 0, lost 0"))
ZERO_SHOP = Part(2, "door get\n  answer 0\ndoor fill\n  answer 0")
LUCKY_SHOP = Part(2, "cell n 0\ndoor get\n  draw n\n  if n = 0\n    fail\n  answer 0\ndoor fill\n  answer 0")
# A shop that has one thing alone, beside a till that may take it once.
ONCE = SYSTEM.with_pact(FILL, ((),)).with_pact(
    GET, read_pact(2, "state 0\n  get any -> any 1\nstate 1\n  get any -> lost 1"))
ENDLESS_SHOP = Part(2, "door get\n  answer it\ndoor fill\n  answer 0")
# Behind the first call it draws which of two worths it gives away on the second one; none of them is let.
SLY_SHOP = Part(2, "cell n 0\ncell m 0\ndoor get\n  if m = 0\n    set m 1\n    draw n\n    answer it\n  answer n\n"
                   "door fill\n  answer 0")
# The pacts take it well or ill what a shop answers that draws all its answers: 0 is taken worse than 1.
DRAWING_SHOP = Part(2, "cell n 0\ndoor get\n  draw n\n  answer n\ndoor fill\n  answer 0")
WORSE = "state 0\n  get any -> 0 1, 1 2\nstate 1\n  get any -> lost 1\nstate 2\n  get any -> any {}\nstate 3\n  get any -> lost 3"
FORGIVEN, LATER = [SYSTEM.with_pact(FILL, ((),)).with_pact(GET, read_pact(2, WORSE.format(state))) for state in (2, 3)]


def plays_at(system, name, member):
    """{event of the tester: {event of the part: the scenes behind it, none behind what is not let}}."""
    found = {}
    for scene in member:
        for event, came in plainly.events_at(system, name, scene):
            for own, later in plainly.events_at(system, name, came):
                behind = found.setdefault(event, {}).setdefault(own, set())
                if later is not None:
                    behind.add(later)
    return {event: {own: tuple(sorted(behind)) for own, behind in owns.items()} for event, owns in found.items()}


def plain_members(system, name, start=()):
    """{member: what can be played at it}."""
    found, left = {}, [(plainly.first_scene(system, name),)] + list(start)
    while left:
        member = left.pop()
        if member not in found:
            found[member] = plays_at(system, name, member)
            left += [later for owns in found[member].values() for later in owns.values() if later]
    return found


def plain_ranks(found):
    """The ranks, told by how many events are needed: first all that need one, then all that need two, and so on."""
    ranks = {}
    for rank in range(1, len(found) + 1):
        fresh = [
            member for member, plays in found.items() if member not in ranks
            and any(all(later == () or later in ranks for later in owns.values()) for owns in plays.values())
        ]
        ranks.update({member: rank for member in fresh})
    return {member: ranks.get(member, -1) for member in found}


def plain_found_out(system, name, start=()):
    ranks = plain_ranks(plain_members(system, name, start))
    rank = ranks[plainly.first_scene(system, name),]
    table = tuple(sorted(ranks.items()))
    return ("caught", rank, table) if rank > 0 else ("hides", table)


def some_cases():
    """(system, name, part in its place)."""
    found = [
        (SYSTEM, "shop", SHOP), (SYSTEM, "till", TILL), (JUST, "shop", ZERO_SHOP), (JUST, "shop", LUCKY_SHOP),
        (ONCE, "shop", ENDLESS_SHOP), (ONCE, "shop", SLY_SHOP), (RING, "a", RING.part("a")), (RING, "b", RING.part("b")),
        (FORGIVEN, "shop", DRAWING_SHOP), (LATER, "shop", DRAWING_SHOP),
    ]
    for seed, system in enumerate(kept_systems(60) + telling_systems(60) + [random_system(seed) for seed in range(80)]):
        draw = Random(seed)
        for name in system.parts:
            part = other_edition(draw, system.part(name))
            if isinstance(told(lambda: system.with_part(name, part)), System):
                found.append((system, name, part))
    return found


CASES = some_cases()


class Examples(unittest.TestCase):
    def test_as_they_stand(self):
        self.assertEqual(found_out(JUST, "shop", ZERO_SHOP)[:2], ("caught", 1))
        self.assertEqual(found_out(JUST, "shop", LUCKY_SHOP)[0], "hides")


class FoundOut(unittest.TestCase):
    def test_by_one_event_whatever_it_answers(self):
        still = ((), ())
        self.assertEqual(found_out(JUST, "shop", ZERO_SHOP), ("caught", 1, ((((still, (), (), (), (0, 0)),), 1),)))

    def test_members_differ_by_inner_alone(self):
        member = tuple((((n,), ()), (), (), (), (0, 0)) for n in (0, 1))
        self.assertEqual(found_out(JUST, "shop", LUCKY_SHOP), ("hides", tuple(sorted([
            (member[:1], -1),
            # It saw lost, so 0 was drawn; it saw 0, so 1 was drawn.
            (member[1:], -1),
        ]))))
        forgets = Part(2, "cell n 0\ndoor get\n  draw n\n  fail\ndoor fill\n  answer 0")
        self.assertEqual(found_out(JUST, "shop", forgets), ("hides", tuple(sorted([(member[:1], -1), (member, -1)]))))

    def test_by_several_events(self):
        word, rank, table = found_out(ONCE, "shop", ENDLESS_SHOP)
        self.assertEqual((word, rank, len(table)), ("caught", 2, 2))
        self.assertEqual([rank for _, rank in table], [2, 1])

    def test_whatever_it_draws(self):
        word, rank, table = found_out(ONCE, "shop", SLY_SHOP)
        self.assertEqual((word, rank), ("caught", 2))
        self.assertIn((2, 1), [(len(scenes), rank) for scenes, rank in table])

    def test_the_greatest_rank_to_which_its_events_lead(self):
        # Who is told 0 finds it out by the next call; who is told 1 never does, or by two more.
        word, table = found_out(FORGIVEN, "shop", DRAWING_SHOP)
        self.assertEqual((word, sorted(set(rank for _, rank in table))), ("hides", [-1, 1]))
        word, rank, table = found_out(LATER, "shop", DRAWING_SHOP)
        self.assertEqual((word, rank, sorted(set(rank for _, rank in table))), ("caught", 3, [1, 2, 3]))
        table = found_out(FORGIVEN, "shop", DRAWING_SHOP)[1]
        first = (((((0,), ()), (), (), (), (0, 0)),), -1)
        self.assertIn(first, table)
        lesser = tuple((row[0], 2) if row == first else row for row in table)
        self.assertIs(shows_found_out(FORGIVEN, "shop", DRAWING_SHOP, ("caught", 2, lesser)), False)

    def test_by_the_event_that_needs_the_fewest(self):
        # By get 1 it takes two; by get 0 it would take three, since 1 may be answered.
        text = WORSE.format(3).replace("get any -> 0 1, 1 2", "get 0 -> 0 1, 1 2\n  get 1 -> 0 1, 1 1")
        system = SYSTEM.with_pact(FILL, ((),)).with_pact(GET, read_pact(2, text))
        self.assertEqual(found_out(system, "shop", DRAWING_SHOP)[:2], ("caught", 2))

    def test_by_an_answer(self):
        # A till that takes a lost answer for a 1 is found out by pay and lost.
        strict = SYSTEM.with_pact(PAY, read_pact(2, "state 0\n  pay any -> 0 0, lost 0"))
        till = Part(2, "port shop\ndoor pay\n  ask shop get it\n  if lost\n    answer 1\n  fail")
        self.assertEqual(found_out(strict, "till", till)[:2], ("caught", 2))
        self.assertEqual(found_out(strict.with_pact(GET, read_pact(2, "state 0\n  get any -> any 0")), "till", till)[0], "hides")

    def test_by_an_ask(self):
        tight = SYSTEM.with_pact(GET, read_pact(2, "state 0\n  get 0 -> any 0, lost 0"))
        self.assertEqual(found_out(tight, "till", TILL)[:2], ("caught", 1))

    def test_by_a_call_amid(self):
        self.assertEqual(found_out(RING, "a", RING.part("a"))[0], "hides")
        never_busy = RING.with_pact(BACK, read_pact(2, "state 0\n  go 0 -> any 0"))
        word, rank, table = found_out(never_busy, "a", RING.part("a"))
        self.assertEqual((word, rank), ("caught", 2))
        # It waits for b, whose call comes amid; the answer of a is busy then.
        waits = ((((), (2, 0)), ((GO, "go", 0),), (COME, "come", 0), (), (0, 0, 0)),)
        self.assertIn((waits, 1), table)

    def test_hides_where_no_call_comes(self):
        silent = SYSTEM.with_pact(GET, ((),)).with_pact(FILL, ((),))
        self.assertEqual(found_out(silent, "shop", ZERO_SHOP), ("hides", ((((((), ()), (), (), (), (0, 0)),), -1),)))

    def test_hides_behind_a_way_out(self):
        # Behind the first call the tester cannot do anything more.
        stops = ONCE.with_pact(GET, read_pact(2, "state 0\n  get any -> any 1\nstate 1"))
        word, table = found_out(stops, "shop", ENDLESS_SHOP)
        self.assertEqual((word, [rank for _, rank in table]), ("hides", [-1, -1]))

    def test_the_least_number(self):
        # By x 1 it is found out at once, by x 0 only behind another call.
        system = System("worths 2\npart a\n  door x\n    answer 0\nouter a\n  state 0\n    x 0 -> 0 1\n    x 1 -> 1 0\n"
                        "  state 1\n    x any -> 1 1")
        self.assertEqual(found_out(system, "a", system.part("a"))[:2], ("caught", 1))
        later = system.with_pact(("", "a"), read_pact(2, "state 0\n  x 0 -> 0 1\n  x 1 -> 0 0\nstate 1\n  x any -> 1 1"))
        self.assertEqual(found_out(later, "a", system.part("a"))[:2], ("caught", 2))

    def test_a_good_part_hides(self):
        for system in kept_systems(30, 500):
            for name in system.parts:
                word, table = found_out(system, name, system.part(name))
                self.assertEqual((word, set(rank for _, rank in table)), ("hides", {-1}))

    def test_many(self):
        words, ranks, greatest = {"caught": 0, "hides": 0}, set(), 0
        for system, name, part in CASES:
            found = found_out(system, name, part)
            self.assertEqual(found, plain_found_out(system.with_part(name, part), name))
            words[found[0]] += 1
            ranks.update(rank for _, rank in found[-1])
            greatest = max([greatest] + [len(scenes) for scenes, _ in found[-1]])
        self.assertGreater(min(words.values()), 60)
        self.assertTrue({-1, 1, 2, 3, 4} <= ranks)
        self.assertGreater(greatest, 2)

    def test_the_number_is_held_by_whoever_plays_so(self):
        # However the part goes on, a tester that plays for the least rank has found it out by so many events.
        for system, name, part in CASES:
            found = found_out(system, name, part)
            if found[0] != "caught":
                continue
            ranks, other = dict(found[2]), system.with_part(name, part)
            level = [(plainly.first_scene(system.with_part(name, part), name),)]
            for _ in range(found[1]):
                level = [later for member in level for later in best_play(plays_at(other, name, member), ranks)]
            self.assertEqual(level, [])

    def test_errors(self):
        for value in ODD_VALUES:
            self.assertEqual(exactly(told(lambda: found_out(SYSTEM, value, ZERO_SHOP))), exactly(("NoPart", value)))
            self.assertEqual(exactly(told(lambda: found_out(SYSTEM, value, TILL))), exactly(("NoPart", value)))
            self.assertEqual(exactly(told(lambda: shows_found_out(SYSTEM, value, TILL, ("hides", ())))),
                             exactly(("NoPart", value)))
        for name, part in (("till", SHOP), ("shop", TILL), ("shop", Part(3, SHOP.text)), ("shop", Part(2, "door get\n  fail"))):
            self.assertEqual(told(lambda: found_out(SYSTEM, name, part)), ("BadPart", part))
            self.assertEqual(told(lambda: shows_found_out(SYSTEM, name, part, None)), ("BadPart", part))
        self.assertEqual(told(lambda: found_out(SYSTEM, "nobody", Part(3, SHOP.text))), ("NoPart", "nobody"))

    def test_arguments_by_name(self):
        found = found_out(part=ZERO_SHOP, name="shop", system=JUST)
        self.assertEqual(found, found_out(JUST, "shop", ZERO_SHOP))
        self.assertIs(shows_found_out(value=found, part=ZERO_SHOP, name="shop", system=JUST), True)


def best_play(plays, ranks):
    """All that is behind the event by which the least rank is reached."""
    worths = {event: max(0 if later == () else ranks[later] for later in owns.values())
              for event, owns in plays.items() if all(later == () or ranks[later] > 0 for later in owns.values())}
    best = min(worths, key=lambda event: worths[event])
    return [later for later in plays[best].values() if later]


def with_table(found, table):
    return found[:-1] + (tuple(table),)


class Shows(unittest.TestCase):
    cases = CASES[:8] + [case for case in CASES[8:] if len(found_out(*case)[-1]) < 12][:60]

    def no(self, case, value):
        self.assertIs(shows_found_out(*case, value), False, value)

    def test_what_found_out_tells(self):
        for case in CASES:
            self.assertIs(shows_found_out(*case, found_out(*case)), True)

    def test_any_value(self):
        for case in self.cases[:6]:
            found = found_out(*case)
            table = found[-1]
            for value in ODD_VALUES:
                for other in (value, ("hides", value), ("caught", 1, value), ("caught", value, table), (value, table),
                              (value, 1, table), with_table(found, table + (value,)), with_table(found, (value,) + table),
                              with_table(found, (value,)), found + (value,), with_table(found, [(value, -1)]),
                              with_table(found, [(value, rank) for _, rank in table]), with_table(found, [((value,), 1)])):
                    if exactly(other) != exactly(found):
                        self.no(case, other)
                for at, (scenes, rank) in enumerate(table):
                    for row in ((scenes, value), (value, rank), (scenes + (value,), rank), (scenes, rank, value)):
                        if exactly(row) != exactly(table[at]):
                            self.no(case, with_table(found, table[:at] + (row,) + table[at + 1:]))
            for value in (list(found), ("Caught",) + found[1:], with_table(found, table[::-1] + table), with_table(found, ()),
                          found[:-1] + (list(table),), with_table(found, [list(row) for row in table]),
                          with_table(found, [(list(scenes), rank) for scenes, rank in table])):
                self.no(case, value)

    def test_words(self):
        for case in self.cases:
            found = found_out(*case)
            if found[0] == "hides":
                for other in (("caught", -1, found[1]), ("caught", 0, found[1]), ("caught", 1, found[1])):
                    self.no(case, other)
            else:
                for other in (("hides", found[2]), ("caught", found[1] + 1, found[2]), ("caught", found[1] - 1, found[2])):
                    self.no(case, other)

    def test_truths_in_the_places_of_numbers(self):
        for case in self.cases[:6]:
            for other in with_truths(found_out(*case)):
                self.no(case, other)

    def test_nearly_right_tables(self):
        for case in self.cases:
            found = found_out(*case)
            table = found[-1]
            for at, (scenes, rank) in enumerate(table):
                self.no(case, with_table(found, table[:at] + table[at + 1:]))
                self.no(case, with_table(found, table[:at] + (table[at],) + table[at:]))
                others = [(scenes, other) for other in (-2, -1, 0, rank - 1, rank + 1, 99) if other != rank]
                others += [(scenes[:place] + scenes[place + 1:], rank) for place in range(len(scenes))]
                for other in others:
                    self.no(case, with_table(found, sorted(table[:at] + (other,) + table[at + 1:])))
                for other in others[:3]:
                    self.no(case, with_table(found, sorted(table + (other,))))
            if len(table) > 1:
                self.no(case, with_table(found, table[::-1]))

    def test_greater_closed_tables(self):
        greater = 0
        for system, name, part in self.cases:
            other = system.with_part(name, part)
            least = plain_members(other, name)
            draw = Random(len(least))
            for _ in range(6):
                scene = draw.choice([scene for member in least for scene in member])
                more = changed_member(draw, other, name, scene)
                table = plain_found_out(other, name, [more])
                self.assertIs(shows_found_out(system, name, part, table), True)
                greater += len(table[-1]) > len(least)
                if more not in least and len(table[-1]) - len(least) > 1:
                    # Without one of the further members: unless nothing leads to it.
                    for gone in [row for row in table[-1] if row[0] not in least]:
                        rest = with_table(table, [row for row in table[-1] if row != gone])
                        led = [row for row in rest[-1] if gone[0] in behind_member(other, name, row[0])]
                        self.assertIs(shows_found_out(system, name, part, rest), not led)
        self.assertGreater(greater, 60)

    def test_members_by_their_form(self):
        still = ((), ())
        first = (still, (), (), (), (0, 0))
        called = (still, ((GET, "get", 0),), (), ("call",), (0, 0))
        waits = [((((), (2, it)), ((PAY, "pay", 1),), (GET, "get", 1), (), (0, 0))) for it in (0, 1)]
        self.no((JUST, "shop", ZERO_SHOP), ("caught", 1, (((first,), 1), ((called,), 1))))
        self.no((JUST, "shop", ZERO_SHOP), ("caught", 1, (((), -1), ((first,), 1))))
        self.no((JUST, "shop", ZERO_SHOP), ("caught", 1, (((first, called), 1),)))
        # Where the part is to go on, nobody plays: also if all else fits.
        for part, scene in ((ZERO_SHOP, called), (SHOP, (((1,), ()),) + called[1:])):
            other = plain_found_out(SYSTEM.with_part("shop", part), "shop", [(scene,)])
            self.assertEqual(other[0], "hides")
            self.no((SYSTEM, "shop", part), other)
        word, table = found_out(SYSTEM, "till", TILL)
        members = [member for member, _ in table]
        self.assertIn((waits[1],), members)
        # Both could wait by the same events, if it were not told what they were called with.
        both = ("hides", tuple(sorted(table + ((tuple(waits), -1),))))
        self.assertIs(shows_found_out(SYSTEM, "till", TILL, both), True)
        self.no((SYSTEM, "till", TILL), ("hides", tuple(sorted(table + ((tuple(waits[::-1]), -1),)))))
        self.no((SYSTEM, "till", TILL), ("hides", tuple(sorted(table + (((first, waits[1]), -1),)))))
        other = waits[0][:1] + (((PAY, "pay", 0),),) + waits[0][2:]
        self.no((SYSTEM, "till", TILL), ("hides", tuple(sorted(table + ((tuple(sorted([other, waits[1]])), -1),)))))

    def test_of_another_part(self):
        self.no((JUST, "shop", LUCKY_SHOP), found_out(JUST, "shop", ZERO_SHOP))
        self.no((JUST, "shop", ZERO_SHOP), found_out(JUST, "shop", LUCKY_SHOP))
        self.no((ONCE, "shop", ENDLESS_SHOP), found_out(SYSTEM, "shop", ENDLESS_SHOP))


def behind_member(system, name, member):
    return [later for owns in plays_at(system, name, member).values() for later in owns.values()]


def changed_member(draw, system, name, scene):
    """A member of scenes that are alike but for their cells, in other states than a scene, perhaps."""
    (cells, wait), opens, asked, coming, states = scene
    wires = plainly.wires_of(system, name)
    states = tuple(draw.randrange(len(system.pact(wire))) for wire in wires)
    worths = range(system.worths)
    inners = {(tuple(draw.choice(worths) for _ in cells), wait) for _ in range(draw.randint(1, 3))}
    return tuple(sorted((inner, opens, asked, coming, states) for inner in inners))


# Counts its calls up to 31, then anew; reset begins anew.
CLOCK = ("cell a 0\ncell b 0\ncell c 0\ndoor tick\n  add a 1\n  if a = 0\n    add b 1\n    if b = 0\n      add c 1\n  if c = 2\n"
         "    set c 0\ndoor reset\n  set a 0\n  set b 0\n  set c 0\n  answer 1")


def clock(states, resets):
    """The clock beside a ring of states; in so many of them it may be reset, in the last state of all it stands."""
    rows = [f"  state {at}\n    tick 0 -> 0 {(at + 1) % states}" + f"\n    reset 0 -> 1 {states}" * (at < resets)
            for at in range(states)]
    part = "\n".join("  " + row for row in CLOCK.split("\n"))
    return System(f"worths 4\npart a\n{part}\nouter a\n" + "\n".join(rows) + f"\n  state {states}")


class TooManyMembers(unittest.TestCase):
    def test_4000_and_4001(self):
        for states, resets, many in ((125, 0, 4000), (125, 1, 4001), (127, 0, 4064)):
            system = clock(states, resets)
            found = told(lambda: found_out(system, "a", system.part("a")))
            if many == 4000:
                self.assertEqual((found[0], len(found[1])), ("hides", 4000))
            else:
                self.assertEqual(found, ("TooMany", 4000))

    def test_shows_takes_more(self):
        system = clock(125, 1)
        first = ((((0, 0, 0), ()), (), (), (), (0,)),)
        members = plain_members(system, "a")
        self.assertEqual((len(members), first in members), (4001, True))
        table = tuple(sorted((member, -1) for member in members))
        self.assertIs(shows_found_out(system, "a", system.part("a"), ("hides", table)), True)
        self.assertIs(shows_found_out(system, "a", system.part("a"), ("hides", table[:-1])), False)


if __name__ == "__main__":
    unittest.main()
