import unittest
from itertools import product
from random import Random

from tests import plainwhole
from tests.helping import ODD_VALUES, exactly, told
from tests.manysystems import kept_systems, other_edition, random_system, telling_systems
from tests.test_editions import ANY_SHOP, LOST_TILL, SHOP, SOLD, TILL, first_inner_of
from tests.test_keeping import RING, SYSTEM, TIGHT, with_truths
from tests.test_wholes import FILL, GET, PAY, ROUND, counter
from truestandins.amid import amid, shows_amid
from truestandins.editions import entries
from truestandins.parts import Part
from truestandins.systems import System
from truestandins.wholes import whole

EXCHANGE = ("exchange",)


def wires_of(system, name):
    return [wire for wire in system.wires if name in (wire[0], system.offerer(wire))]


def row_of(system, name, moment):
    return tuple(moment[3][system.wires.index(wire)] for wire in wires_of(system, name))


def events_amid(system, name, newer, only, member):
    """All (event, member behind it) that can come; None behind what is not let."""
    number, moment = member
    place = system.parts.index(name)
    inners, stack, given, states = moment
    now = system.with_part(name, newer) if number else system
    found = [(event, later and (number, later)) for event, later in plainwhole.events_of(now, moment)]
    called = stack and not given and system.offerer(stack[-1][0]) == name
    if number == 0 and inners[place][1] == () and not called and (only is None or row_of(system, name, moment) in only):
        others = inners[:place] + (first_inner_of(newer),) + inners[place + 1:]
        found.append((EXCHANGE, (1, (others, stack, given, states))))
    return found


def plain_amid(system, name, newer, only, start=()):
    """(all members, how many events the shortest run to one that is not let has; None for none)."""
    level = [(0, plainwhole.first_moment(system))] + list(start)
    members, events = set(level), 0
    while level:
        events += 1
        laters = [later for member in level for _, later in events_amid(system, name, newer, only, member)]
        if None in laters:
            return members, events
        level = sorted(set(laters) - members)
        members.update(level)
    return members, None


def is_fault_run(system, name, newer, only, run):
    members = [(0, plainwhole.first_moment(system))]
    for at, event in enumerate(run):
        laters = [later for member in members for known, later in events_amid(system, name, newer, only, member)
                  if known == event]
        if not laters or None in laters:
            return None in laters and at == len(run) - 1
        members = laters
    return False


def all_rows(system, name):
    return list(product(*[range(len(system.pact(wire))) for wire in wires_of(system, name)]))


def some_cases():
    """(system, name, newer, only)."""
    found = [(SYSTEM, "shop", SHOP, None), (SYSTEM, "till", TILL, None), (SOLD, "shop", SHOP, None), (SOLD, "shop", SHOP, ()),
             (SOLD, "shop", SHOP, ((0,),)), (SOLD, "shop", SHOP, ((1,),)), (RING, "b", RING.part("b"), None),
             (ROUND, "c", ROUND.part("c"), None), (ROUND, "a", ROUND.part("a"), ((0, 0, 0),)), (SYSTEM, "shop", ANY_SHOP, None)]
    systems = kept_systems(40) + telling_systems(90) + [random_system(seed) for seed in range(40)]
    for seed, system in enumerate(systems):
        draw = Random(seed)
        name = draw.choice(system.parts)
        newer = other_edition(draw, system.part(name)) if draw.random() < 0.7 else system.part(name)
        only = None
        if draw.random() < 0.5:
            only = tuple(row for row in all_rows(system, name) if draw.random() < 0.4)
        if isinstance(told(lambda: system.with_part(name, newer)), System):
            found.append((system, name, newer, only))
    return found


class Examples(unittest.TestCase):
    def test_as_they_stand(self):
        self.assertEqual([len(amid(SOLD, "shop", SHOP)[1]), amid(SOLD, "shop", SHOP, only=((0,),))[0]], [8, "kept"])


class Amid(unittest.TestCase):
    def test_many(self):
        words, exchanged, runs = {"kept": 0, "broken": 0}, 0, 0
        for system, name, newer, only in some_cases():
            found = amid(system, name, newer, only=only)
            members, events = plain_amid(system, name, newer, only)
            words[found[0]] += 1
            if events is None:
                self.assertEqual(found, ("kept", tuple(sorted(members))))
                exchanged += any(number for number, _ in members)
            else:
                self.assertEqual((found[0], len(found[1])), ("broken", events))
                self.assertTrue(is_fault_run(system, name, newer, only, found[1]))
                runs += EXCHANGE in found[1]
            self.assertIs(shows_amid(system, name, newer, found, only=only), True)
        self.assertGreater(min(words.values()), 30)
        self.assertGreater(exchanged, 40)
        self.assertGreater(runs, 8)

    def test_sold(self):
        # A thing is sold, the shop is exchanged, and sells once more.
        word, run = amid(SOLD, "shop", SHOP)
        self.assertEqual((word, len(run), run.count(EXCHANGE), run[-1][:2]), ("broken", 8, 1, (GET, "answer")))
        self.assertIn(run[-1][2], (0, 1))
        # With the exchange once more it would be sold again and again: it comes at most once.
        self.assertIs(shows_amid(SOLD, "shop", SHOP, (word, run[:-1] + (EXCHANGE,) + run[-1:])), False)

    def test_a_table_with_and_without_only(self):
        word, table = amid(SOLD, "shop", SHOP, only=())
        self.assertEqual((word, table), ("kept", tuple((0, moment) for moment in whole(SOLD)[1])))
        word, table = amid(SOLD, "shop", SHOP, only=((0,),))
        behind = tuple(moment for number, moment in table if number == 1)
        # Exchanged before a thing is sold, all goes on as with the elder one.
        self.assertEqual((word, behind), ("kept", whole(SOLD)[1]))

    def test_amid_a_call(self):
        # The shop may be exchanged while the till is called and asks nobody yet, and while the till is answered.
        word, table = amid(SYSTEM, "shop", SHOP)
        self.assertEqual(word, "kept")
        places = set((moment[1][-1][0] if moment[1] else None, moment[2] != ()) for number, moment in table if number)
        self.assertEqual(places, {(None, False), (PAY, False), (PAY, True), (GET, False), (FILL, False)})

    def test_when_it_cannot_be(self):
        # a waits and b is called or waits whenever the outside has called; so b is exchanged at rest alone,
        # or while a has just been called.
        system = RING
        members = dict.fromkeys(amid(system, "b", system.part("b"))[1])
        for (number, moment) in [member for member in members if member[0] == 0]:
            inners, stack, given, states = moment
            here = (1, moment) if inners[1] == ((), ()) else None
            called = stack and not given and system.offerer(stack[-1][0]) == "b"
            if here is not None and not called:
                self.assertIn(here, members)
        # One that draws another first worth tells where it came in: never where it was just called.
        part = Part(2, "cell n 1\ndoor x\n  answer n")
        system = System("worths 2\npart a\n  cell n 0\n  door x\n    answer n\nouter a\n  state 0\n    x 0 -> 0 0")
        word, run = amid(system, "a", part)
        self.assertEqual((word, run), ("broken", (EXCHANGE, (("", "a"), "call", "x", 0), (("", "a"), "answer", 1))))
        self.assertIs(shows_amid(system, "a", part, (word, (run[1], run[0], run[2]))), False)

    def test_a_part_that_is_not_run(self):
        # A run that breaks without the exchange is told, too.
        word, run = amid(TIGHT, "shop", SHOP)
        self.assertEqual((word, len(run)), ("broken", 7))
        word, run = amid(TIGHT, "till", LOST_TILL, only=())
        self.assertEqual((word, len(run), EXCHANGE in run), ("broken", 7, False))

    def test_by_name(self):
        found = amid(system=SOLD, name="shop", newer=SHOP, only=((0,),))
        self.assertEqual(found, amid(SOLD, "shop", SHOP, only=((0,),)))
        self.assertIs(shows_amid(system=SOLD, name="shop", newer=SHOP, value=found, only=((0,),)), True)
        with self.assertRaises(TypeError):
            amid(SOLD, "shop", SHOP, ())
        with self.assertRaises(TypeError):
            shows_amid(SOLD, "shop", SHOP, found, ())

    def test_only_at_rows_that_entries_tells(self):
        """Guarantee (e)."""
        entered, rows_left = 0, 0
        for seed, system in enumerate(kept_systems(100, 2000) + telling_systems(100, 2000)):
            draw = Random(seed)
            name = draw.choice(system.parts)
            newer = other_edition(draw, system.part(name))
            if isinstance(told(lambda: system.with_part(name, newer)), System):
                rows = entries(system, name, newer)[1]
                only = tuple(row for row, run in rows if run == ())
                word, table = amid(system, name, newer, only=only)
                self.assertEqual(word, "kept")
                entered += any(number for number, _ in table)
                rows_left += len(only) < len(rows)
        self.assertGreater(entered, 80)
        self.assertGreater(rows_left, 10)


class Errors(unittest.TestCase):
    def check(self, arguments, only, error):
        self.assertEqual(exactly(told(lambda: amid(*arguments, only=only))), exactly(error))
        self.assertEqual(exactly(told(lambda: shows_amid(*arguments, None, only=only))), exactly(error))

    def test_no_part_and_bad_part(self):
        for value in ODD_VALUES + ("",):
            self.check((SOLD, value, 3), 4, ("NoPart", value))
            self.check((SOLD, "shop", value), 4, ("BadPart", value))
        for part in (TILL, Part(3, SHOP.text), Part(2, "door fill\n  fail")):
            found = told(lambda: amid(SOLD, "shop", part, only=4))
            self.assertEqual(found[0], "BadPart")
            self.assertIs(found[1], part)

    def test_bad_rows(self):
        wrong = [value for value in ODD_VALUES if exactly(value) not in ("()", "None", "((0,),)")]
        wrong = [value for value in wrong if exactly(value) != exactly(((0,), (1,)))]
        wrong += [((1,), (0,)), ((0,), (0,)), ((2,),), ((-1,),), ((0, 0),), ([0],), [(0,)], ((True,),), ((False,),), ((0,), ()),
                  (("0",),), ((None,),), ((0,), [1])]
        for value in wrong:
            self.check((SOLD, "shop", SHOP), value, ("BadRows", value))
        for only in ((), ((0,),), ((1,),), ((0,), (1,))):
            self.assertIn(amid(SOLD, "shop", SHOP, only=only)[0], ("kept", "broken"))
        # The rows are of the wires of the part alone.
        self.check((SYSTEM, "till", TILL), ((0, 0, 0),), ("BadRows", ((0, 0, 0),)))
        self.assertEqual(amid(SYSTEM, "till", TILL, only=((0, 0),))[0], "kept")

    def test_too_many(self):
        system = counter([9] * 200)
        part = system.part("a")
        self.assertEqual(len(amid(system, "a", part)[1]), 4000)
        self.assertEqual(told(lambda: amid(counter([10] + [9] * 199), "a", part)), ("TooMany", 4000))
        many = counter([10] + [9] * 399)
        self.assertEqual(told(lambda: amid(many, "a", part, only=())), ("TooMany", 4000))
        members, events = plain_amid(many, "a", part, ())
        self.assertEqual((len(members), events), (4001, None))
        self.assertIs(shows_amid(many, "a", part, ("kept", tuple(sorted(members))), only=()), True)
        self.assertIs(shows_amid(many, "a", part, ("kept", tuple(sorted(members))[1:]), only=()), False)
        worse = Part(4, "door a\n  answer 1\ndoor b\n  answer 1\ndoor c\n  answer 1")
        self.assertEqual(len(amid(many, "a", worse)[1]), 3)


class Shows(unittest.TestCase):
    @classmethod
    def setUpClass(cls):
        cls.cases = []
        for case in some_cases():
            found = amid(*case[:3], only=case[3])
            if 3 < len(found[1]) < 24:
                cls.cases.append((case, found))
        kept = [row for row in cls.cases if row[1][0] == "kept" and any(number for number, _ in row[1][1])]
        broken = [row for row in cls.cases if row[1][0] == "broken" and EXCHANGE in row[1][1]]
        assert len(kept) > 8 and len(broken) > 8, (len(kept), len(broken))
        cls.cases = cls.cases[:4] + kept[:8] + broken[:8]

    def no(self, case, value):
        self.assertIs(shows_amid(*case[:3], value, only=case[3]), False)

    def test_values_of_any_kind(self):
        for case, found in self.cases:
            for value in ODD_VALUES:
                self.no(case, value)
                self.no(case, (value, found[1]))
                self.no(case, (found[0], value))
                self.no(case, (found[0], (value,)))
                for at, member in enumerate(found[1]):
                    self.no(case, (found[0], found[1][:at] + (value,) + found[1][at + 1:]))
                    for place in range(len(member)):
                        if exactly(value) != exactly(member[place]):
                            other = member[:place] + (value,) + member[place + 1:]
                            self.no(case, (found[0], found[1][:at] + (other,) + found[1][at + 1:]))
            for value in (list(found), found + ((),), found[:1], (found[0], list(found[1])), ("kept", ()), ("broken", ()),
                          ("broken" if found[0] == "kept" else "kept", found[1])):
                self.no(case, value)

    def test_truths(self):
        swapped = 0
        for case, found in self.cases:
            for other in with_truths(found):
                self.no(case, other)
                swapped += 1
        self.assertGreater(swapped, 300)

    def test_members_and_events_left_out_twice_and_out_of_sequence(self):
        for case, (word, rows) in self.cases:
            for at in range(len(rows)):
                for other in (rows[:at] + rows[at + 1:], rows[:at + 1] + rows[at:],
                              rows[:at - 1] + (rows[at], rows[at - 1]) + rows[at + 1:] if at else ()):
                    right = word == "broken" and is_fault_run(*case, other)
                    self.assertIs(shows_amid(*case[:3], (word, other), only=case[3]), right)

    def test_with_another_only(self):
        for case, found in self.cases:
            for only in (None, (), tuple(all_rows(case[0], case[1]))[:1]):
                if found[0] == "broken":
                    right = is_fault_run(*case[:3], only, found[1])
                else:
                    members, events = plain_amid(*case[:3], only, found[1])
                    right = events is None and members == set(found[1])
                self.assertIs(shows_amid(*case[:3], found, only=only), right)

    def test_greater_closed_tables(self):
        grown = 0
        for case, found in self.cases:
            if found[0] == "kept":
                system, name, newer, only = case
                for number, moment in found[1][:6]:
                    for other in {(1 - number, moment)} | {(number, moment[:3] + (states,)) for states in product(
                            *[range(len(system.pact(wire))) for wire in system.wires])}:
                        now = system.with_part(name, newer) if other[0] else system
                        if other in found[1] or not fits(now, other[1]):
                            continue
                        members, events = plain_amid(system, name, newer, only, [other])
                        changed = system.with_part(name, newer)
                        formed = all(plainwhole.is_moment(changed if at else system, later) for at, later in members)
                        value = ("kept", tuple(sorted(members)))
                        self.assertIs(shows_amid(system, name, newer, value, only=only), events is None and formed)
                        grown += events is None and formed
        self.assertGreater(grown, 10)

    def test_numbers_of_members(self):
        for case, (word, table) in self.cases:
            if word == "kept":
                for number in (2, 3, -1, -2):
                    for other in (table + ((number, table[-1][1]),), ((number, table[0][1]),) + table):
                        self.no(case, (word, other))

    def test_longer_runs(self):
        word, run = amid(SOLD, "shop", SHOP)
        lost = ((PAY, "call", "pay", 0), (GET, "call", "get", 0), (GET, "answer", -1), (PAY, "answer", -1))
        at = run.index(EXCHANGE)
        for many in (0, 1, 3, 300):
            self.assertIs(shows_amid(SOLD, "shop", SHOP, (word, run[:4] + lost * many + run[4:])), at >= 4)
        self.assertIs(shows_amid(SOLD, "shop", SHOP, (word, run[:at] + run[at + 1:])), False)
        self.assertIs(shows_amid(SOLD, "shop", SHOP, (word, run[:at] + (EXCHANGE,) + run[at:])), False)


def fits(system, moment):
    """Whether it is a moment by its form of the system, the inners of its parts being such."""
    for name, (cells, wait) in zip(system.parts, moment[0]):
        part = system.part(name)
        if len(cells) != len(part.cells) or wait and not part.text.split("\n")[wait[0]].strip().startswith("ask "):
            return False
    return plainwhole.is_moment(system, moment)


if __name__ == "__main__":
    unittest.main()
