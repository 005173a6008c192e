import unittest
from itertools import product
from random import Random

from tests import plainly
from tests.helping import ODD_VALUES, exactly, told
from tests.manysystems import pact_rows, part_rows, random_system
from tests.test_keeping import RING, SYSTEM, TIGHT, with_truths
from tests.test_wholes import FILL, GET, PAY, counter
from truestandins.choosing import chosen, shows_chosen
from truestandins.errors import WireError
from truestandins.keeping import keeps
from truestandins.pacts import is_pact
from truestandins.pacttexts import read_pact
from truestandins.parts import Part
from truestandins.systems import System
from truestandins.weakest import stand_in

NARROW, WIDE = TIGHT.pact(GET), SYSTEM.pact(GET)
OFFERS = ((GET, ((NARROW, 1), (WIDE, 2))),)
TILL = SYSTEM.part("till")
# What it is paid is right in the end, but it asks for 0 alone; what asks for all, but answers 0.
MEAN = Part(2, "port shop\ndoor pay\n  ask shop get 0\n  answer it")
FALSE = Part(2, "cell has 1\ndoor get\n  if has = 0\n    fail\n  set has 0\n  answer 0\ndoor fill\n  set has 1")
BUSY = read_pact(2, "state 0\n  get any -> any 0, lost 0, busy 0")
FREE = read_pact(2, "state 0\n  pay any -> any 0, lost 0, busy 0")


def system_of(system, offers, choice):
    for (wire, options), number in zip(offers, choice):
        system = system.with_pact(wire, options[number][0])
    return system


def in_turn(offers):
    """All (price, choice), the cheapest first."""
    choices = product(*[range(len(options)) for _, options in offers])
    return sorted((sum(options[at][1] for (_, options), at in zip(offers, choice)), choice) for choice in choices)


def closes(system, faults):
    if not all(keeps(system, name)[0] == "keeps" for name in system.parts):
        return False
    return all(keeps(system.with_part(name, part), name)[0] == "breaks" for name, part in faults)


def picks_of(system, offers, name, choice):
    return tuple((wire, number) for (wire, _), number in zip(offers, choice) if name in (wire[0], system.offerer(wire)))


def is_clash(system, offers, faults, clash):
    kind, key, picks, proof = clash
    name = key if kind == "part" else faults[key][0]
    assert picks == picks_of(system, offers, name, [dict(picks).get(wire, 0) for wire, _ in offers])
    for wire, number in picks:
        system = system.with_pact(wire, dict(offers)[wire][number][0])
    if kind == "part":
        return plainly.is_fault_run(system, name, proof)
    scenes, events = plainly.kept_or_broken(system.with_part(name, faults[key][1]), name)
    return events is None and proof == tuple(sorted(scenes))


def random_case(seed):
    """A system, offers of some of its wires and faults of some of its parts."""
    draw = Random(seed)
    system = random_system(seed, 0.9)
    doors = {name: system.part(name).doors for name in system.parts}
    offers = []
    for wire in system.wires:
        if draw.random() < 0.6:
            options = [(system.pact(wire), draw.randint(1, 6))]
            for loose in (0.5, 0.8, 1.1)[:draw.randint(0, 3)]:
                text = "\n".join(row[2:] for row in pact_rows(draw, doors[system.offerer(wire)], loose, 2))
                options.append((read_pact(2, text), draw.randint(1, 6)))
            greatest = told(lambda: stand_in(system, wire))
            if draw.random() < 0.6 and greatest and isinstance(greatest[0], tuple):
                options.append((greatest, draw.randint(1, 6)))
            draw.shuffle(options)
            offers.append((wire, tuple(options[:3])))
    faults = []
    for name in system.parts:
        if draw.random() < 0.35:
            ports = {port: system.offerer((name, port)) for port in system.part(name).ports}
            text = "\n".join(part_rows(draw, doors[name], ports, doors))
            fault = told(lambda: Part(2, text))
            if isinstance(fault, Part):
                faults.append((name, fault))
    return system, tuple(offers[:3]), tuple(faults)


class Example(unittest.TestCase):
    def test_as_it_stands(self):
        found = chosen(SYSTEM, OFFERS)
        self.assertEqual([found[:3], found[4], found[5][0][:3]],
                         [("choice", 2, (1,)), (), ("part", "shop", ((GET, 0),))])
        self.assertEqual(chosen(SYSTEM, OFFERS, faults=(("till", TILL),))[0], "none")


class Chosen(unittest.TestCase):
    def check(self, system, offers, faults):
        found = chosen(system, offers, faults=faults)
        turns = in_turn(offers)
        right = [(price, choice) for price, choice in turns if closes(system_of(system, offers, choice), faults)]
        clashes = found[-1]
        for clash in clashes:
            self.assertTrue(is_clash(system, offers, faults, clash))
        if right:
            self.assertEqual((found[:3], len(found)), (("choice",) + right[0], 6))
            best = system_of(system, offers, right[0][1])
            self.assertEqual(found[3], tuple(keeps(best, name)[1] for name in best.parts))
            self.assertEqual(len(found[4]), len(faults))
            for (name, part), run in zip(faults, found[4]):
                self.assertTrue(plainly.is_fault_run(best.with_part(name, part), name, run))
            turns = turns[:turns.index(right[0])]
        else:
            self.assertEqual((found[0], len(found)), ("none", 2))
        for _, choice in turns:
            picked = set(zip([wire for wire, _ in offers], choice))
            self.assertTrue(any(set(clash[2]) <= picked for clash in clashes))
        self.assertIs(shows_chosen(system, offers, found, faults=faults), True)
        return found

    def test_many_offers(self):
        """Guarantee (d), too: check looks at each choice ahead of the told one."""
        met = {}
        for seed in range(260):
            system, offers, faults = random_case(seed)
            found = self.check(system, offers, faults)
            kinds = found[0], len(offers), bool(faults), tuple(sorted(set(clash[0] for clash in found[-1])))
            met[kinds] = met.get(kinds, 0) + 1
        self.assertTrue({("choice", 2, False, ("part",)), ("choice", 2, True, ()), ("choice", 0, False, ()),
                         ("none", 2, True, ("fault", "part")), ("none", 0, True, ("fault",))} <= set(met), met)

    def test_the_sequence_of_choices(self):
        # All close; the cheapest is taken, of several the least tuple.
        free = ((WIDE, 5), (BUSY, 3), (WIDE, 3))
        self.assertEqual(chosen(SYSTEM, ((GET, free),))[:3], ("choice", 3, (1,)))
        both = ((PAY, ((SYSTEM.pact(PAY), 2), (FREE, 1))), (GET, ((WIDE, 1), (WIDE, 2))))
        self.assertEqual(chosen(SYSTEM, both)[:3], ("choice", 2, (1, 0)))
        both = ((PAY, ((SYSTEM.pact(PAY), 1), (FREE, 2))), (GET, ((WIDE, 2), (WIDE, 1))))
        self.assertEqual(chosen(SYSTEM, both)[:3], ("choice", 2, (0, 1)))
        both = ((PAY, ((SYSTEM.pact(PAY), 2), (FREE, 1))), (GET, ((WIDE, 2), (WIDE, 1))))
        self.assertEqual(chosen(SYSTEM, both)[:3], ("choice", 2, (1, 1)))
        both = ((PAY, ((FREE, 1), (FREE, 2))), (GET, ((WIDE, 2), (WIDE, 1))))
        self.assertEqual(chosen(SYSTEM, both)[:3], ("choice", 2, (0, 1)))
        both = ((PAY, ((FREE, 2), (FREE, 3))), (GET, ((NARROW, 2), (WIDE, 3))))
        self.assertEqual(chosen(SYSTEM, both)[:3], ("choice", 5, (0, 1)))

    def test_no_offers(self):
        self.assertEqual(chosen(SYSTEM, ()), (
            "choice", 0, (), tuple(keeps(SYSTEM, name)[1] for name in SYSTEM.parts), (), ()))
        self.assertEqual(chosen(TIGHT, ()), ("none", (("part", "shop", (), keeps(TIGHT, "shop")[1]),)))
        self.assertIs(shows_chosen(SYSTEM, (), chosen(SYSTEM, ())), True)
        self.assertIs(shows_chosen(TIGHT, (), chosen(TIGHT, ())), True)

    def test_faults(self):
        faults = (("shop", FALSE), ("till", TILL))
        self.check(SYSTEM, OFFERS, faults)
        kept = self.check(SYSTEM, OFFERS, (("till", MEAN), ("till", MEAN)))
        self.assertEqual(kept[0], "none")
        self.assertEqual([clash[:3] for clash in kept[1]], [("part", "shop", ((GET, 0),)), ("fault", 0, ((GET, 1),))])
        # Beside a stand-in that gives back what it was asked, the false shop is found out.
        just = read_pact(2, "state 0\n  get 0 -> 0 0, lost 0\n  get 1 -> 1 0, lost 0")
        found = self.check(SYSTEM, ((GET, ((WIDE, 1), (just, 5))),), (("shop", FALSE),))
        self.assertEqual(found[:3], ("choice", 5, (1,)))
        self.assertEqual([clash[:3] for clash in found[5]], [("fault", 0, ((GET, 0),))])
        self.assertEqual(found[4][0][-1], (GET, "answer", 0))

    def test_a_choice_with_the_picks_of_a_clash_is_passed_over(self):
        # The shop breaks with the narrow pact, whatever is offered to the outside: so one clash stands for many.
        offers = ((PAY, tuple((FREE, price) for price in (1, 2, 3, 4))), (GET, ((NARROW, 1), (WIDE, 90))))
        found = self.check(SYSTEM, offers, ())
        self.assertEqual(found[:3], ("choice", 91, (0, 1)))
        self.assertEqual([clash[:3] for clash in found[5]], [("part", "shop", ((GET, 0),))])

    def test_by_name(self):
        self.assertEqual(chosen(system=SYSTEM, offers=OFFERS, faults=()), chosen(SYSTEM, OFFERS))
        self.assertIs(shows_chosen(system=SYSTEM, offers=OFFERS, value=chosen(SYSTEM, OFFERS), faults=()), True)
        with self.assertRaises(TypeError):
            chosen(SYSTEM, OFFERS, ())
        with self.assertRaises(TypeError):
            shows_chosen(SYSTEM, OFFERS, ("none", ()), ())


class Errors(unittest.TestCase):
    def check(self, offers, faults, error, system=SYSTEM):
        self.assertEqual(exactly(told(lambda: chosen(system, offers, faults=faults))), exactly(error))
        self.assertEqual(exactly(told(lambda: shows_chosen(system, offers, None, faults=faults))), exactly(error))

    def test_bad_offers(self):
        good = (WIDE, 1)
        wrong = [value for value in ODD_VALUES if exactly(value) != "()"]
        wrong += [((GET, (good,)), (PAY, ((FREE, 1),))), ((GET, (good,)), (GET, (good,))), [(GET, (good,))], ([GET, (good,)],),
                  ((GET, [good]),), ((GET, ([WIDE, 1],)),), ((GET, ()),), ((GET, good),), ((GET, (good,), ()),), ((GET,),),
                  ((("shop", "till"), (good,)),), ((["till", "shop"], (good,)),), ((GET, ((WIDE, 1, 0),)),), ((GET, ((WIDE,),)),)]
        wrong += [((GET, ((WIDE, price),)),) for price in (0, 100, -1, True, False, None, "1", (1,), 10 ** 20)]
        wrong += [((GET, (good, (pact, 1))),) for pact in ODD_VALUES if not is_pact(2, pact)]
        wrong += [((GET, ((pact, 1),)),) for pact in (FREE, list(WIDE), read_pact(4, "state 0\n  get 3 -> 0 0"))]
        wrong += [((value, (good,)),) for value in ODD_VALUES] + [((GET, value),) for value in ODD_VALUES]
        for value in wrong:
            self.check(value, (), ("BadOffers", value))
            self.check(value, 7, ("BadOffers", value))

    def test_right_offers(self):
        for offers in (((GET, ((((),), 1),)),), ((GET, ((WIDE, 99),)),), ((GET, ((BUSY, 1), (WIDE, 99), (BUSY, 1))),),
                       ((FILL, ((((), ()), 1),)), (PAY, ((FREE, 5),)), (GET, ((WIDE, 1),)))):
            self.assertIn(chosen(SYSTEM, offers)[0], ("choice", "none"))

    def test_64_choices_and_more(self):
        for sizes, enough in (((64,), True), ((65,), False), ((8, 8), True), ((13, 5), False), ((4, 4, 4), True),
                              ((5, 13, 1), False), ((3, 3, 8), False), ((70, 70, 70), False)):
            offers = tuple((wire, ((SYSTEM.pact(wire), 9),) * size) for wire, size in zip(SYSTEM.wires, sizes))
            if enough:
                self.assertEqual(chosen(SYSTEM, offers)[:3], ("choice", 9 * len(sizes), (0,) * len(sizes)))
            else:
                self.check(offers, (), ("TooMany", 64))
                self.check(offers, "faults", ("TooMany", 64))

    def test_bad_faults(self):
        wrong = [value for value in ODD_VALUES if exactly(value) != "()"]
        wrong += [(("till", value),) for value in ODD_VALUES] + [((value, TILL),) for value in ODD_VALUES]
        wrong += [(("shop", TILL),), [("till", TILL)], (["till", TILL],), (("till", TILL, 1),), (("till",),), ("till", TILL),
                  (("till", TILL), ("shop", 0)), (("till", Part(2, "door pay\n  fail")),), (("till", Part(3, TILL.text)),),
                  (("till", Part(2, "port shop\ndoor pay\n  ask shop give 0")),), (("shop", Part(2, "door fill\n  fail")),)]
        for value in wrong:
            self.check(OFFERS, value, ("BadFaults", value))
            self.check((), value, ("BadFaults", value))

    def test_faults_need_the_doors_of_offered_pacts(self):
        fault = (("shop", Part(2, "door get\n  answer it\ndoor fill\n  fail")),)
        less = SYSTEM.with_part("shop", Part(2, "door get\n  answer it\ndoor fill\n  fail\ndoor look\n  answer 0"))
        look = read_pact(2, "state 0\n  look 0 -> 0 0\n  get any -> any 0, lost 0")
        self.check(((GET, ((WIDE, 1), (look, 1))),), fault, ("BadFaults", fault), less)
        self.assertEqual(chosen(less, ((GET, ((WIDE, 1),)),), faults=fault)[0], "none")
        self.check(((FILL, ((read_pact(2, "state 0\n  look 0 -> 0 0"), 1),)), (GET, ((WIDE, 1),))), fault,
                   ("BadFaults", fault), less)

    def test_too_many_scenes_where_they_are_looked_for(self):
        great, small = counter([12] * 400).pact(("", "a")), counter([1]).pact(("", "a"))
        system = counter([1])
        broken = read_pact(4, "state 0\n  a 0 -> 1 0")
        wire = ("", "a")
        too_many = ("TooMany", 4000)
        self.assertEqual(told(lambda: chosen(system, ((wire, ((great, 1), (small, 2))),))), too_many)
        # The cheaper one is chosen before the great one is looked at.
        self.assertEqual(chosen(system, ((wire, ((great, 2), (small, 1))),))[:3], ("choice", 1, (1,)))
        self.assertEqual(told(lambda: chosen(system, ((wire, ((great, 2), (broken, 1))),))), too_many)
        # A fault that breaks at once is told at once.
        fault = (("a", Part(4, "door a\n  fail\ndoor b\n  fail\ndoor c\n  fail")),)
        self.assertEqual(told(lambda: chosen(system, ((wire, ((great, 2), (small, 1))),), faults=fault))[0], "choice")
        value = chosen(system, ((wire, ((small, 1), (great, 2))),))
        self.assertIs(shows_chosen(system, ((wire, ((small, 1), (great, 2))),), value), True)
        self.assertIs(shows_chosen(system, ((wire, ((great, 1),)),), ("none", ())), False)


class Shows(unittest.TestCase):
    @classmethod
    def setUpClass(cls):
        just = read_pact(2, "state 0\n  get 0 -> 0 0, lost 0\n  get 1 -> 1 0, lost 0")
        three = ((PAY, ((FREE, 2), (SYSTEM.pact(PAY), 1))), (GET, ((NARROW, 1), (WIDE, 2), (just, 5))))
        cls.cases = [(SYSTEM, OFFERS, ()), (SYSTEM, OFFERS, (("till", TILL),)), (SYSTEM, three, (("shop", FALSE),)),
                     (RING, ((("", "a"), ((RING.pact(("", "a")), 1),)),), ())]
        cls.cases += [case for case in map(random_case, range(400, 440)) if case[1]][:8]
        cls.found = [chosen(system, offers, faults=faults) for system, offers, faults in cls.cases]

    def no(self, case, value):
        self.assertIs(shows_chosen(case[0], case[1], value, faults=case[2]), False)

    def test_what_chosen_tells(self):
        words = set()
        for case, found in zip(self.cases, self.found):
            self.assertIs(shows_chosen(case[0], case[1], found, faults=case[2]), True)
            words.add(found[0])
        self.assertEqual(words, {"choice", "none"})

    def test_values_of_any_kind(self):
        for case, found in list(zip(self.cases, self.found))[:9]:
            for value in ODD_VALUES:
                self.no(case, value)
                for other in in_places(found, value):
                    self.no(case, other)
            for value in (list(found), found + ((),), found[:-1], found[:-1] + (list(found[-1]),), ("chosen",) + found[1:],
                          ("none",) + found[1:] if found[0] == "choice" else ("choice",) + found[1:]):
                self.no(case, value)

    def test_truths(self):
        swapped = 0
        for case, found in list(zip(self.cases, self.found))[:6]:
            for other in with_truths(found):
                self.no(case, other)
                swapped += 1
        self.assertGreater(swapped, 200)

    def test_another_choice_or_price(self):
        for case, found in zip(self.cases, self.found):
            if found[0] == "choice":
                self.no(case, found[:1] + (found[1] + 1,) + found[2:])
                for price, choice in in_turn(case[1]):
                    if choice != found[2]:
                        self.no(case, found[:1] + (price, choice) + found[3:])
                        self.no(case, found[:2] + (choice,) + found[3:])
                self.no(case, found[:2] + (found[2] + (0,),) + found[3:])

    def test_a_dearer_choice_is_right_if_none_ahead_closes_only(self):
        offers = ((GET, ((WIDE, 1), (BUSY, 2))),)
        found = chosen(SYSTEM, offers)
        dear = SYSTEM.with_pact(GET, BUSY)
        tables = tuple(keeps(dear, name)[1] for name in dear.parts)
        self.no((SYSTEM, offers, ()), ("choice", 2, (1,), tables, (), ()))
        self.assertIs(shows_chosen(SYSTEM, offers, found), True)
        offers = ((GET, ((NARROW, 1), (BUSY, 2))),)
        clash = ("part", "shop", ((GET, 0),), keeps(TIGHT, "shop")[1])
        self.assertIs(shows_chosen(SYSTEM, offers, ("choice", 2, (1,), tables, (), (clash,))), True)
        self.no((SYSTEM, offers, ()), ("choice", 2, (1,), tables, (), ()))

    def test_clashes(self):
        offers = ((PAY, ((FREE, 1), (SYSTEM.pact(PAY), 2))), (GET, ((NARROW, 1), (WIDE, 2))))
        case = (SYSTEM, offers, (("till", TILL),))
        found = chosen(SYSTEM, offers, faults=case[2])
        self.assertEqual(found[0], "none")
        shop, first, second = found[1]
        self.assertEqual([clash[:3] for clash in found[1]], [
            ("part", "shop", ((GET, 0),)), ("fault", 0, ((PAY, 0), (GET, 1))), ("fault", 0, ((PAY, 1), (GET, 1)))])
        for clashes in ((second, first, shop), (shop, shop, first, second)):
            self.assertIs(shows_chosen(SYSTEM, offers, ("none", clashes), faults=case[2]), True)
        # Longer runs and clashes that nobody needs are right as well.
        good = (GET, "call", "get", 1), (GET, "answer", 1)
        fill = (FILL, "call", "fill", 0), (FILL, "answer", 0)
        longer = shop[:3] + ((good + fill) * 3 + good + ((GET, "call", "get", 1), (GET, "answer", -1)),)
        more = ("fault", 0, ((PAY, 0), (GET, 0)), keeps(system_of(SYSTEM, offers, (0, 0)), "till")[1])
        self.assertIs(shows_chosen(SYSTEM, offers, ("none", (longer, first, second, more)), faults=case[2]), True)
        for clashes in ((), (shop,), (first, second), (shop, first), (shop, second),
                        (shop, first, second[:3] + (first[3],), second[:3] + ((),)),
                        (shop, first, ("fault", 0, ((PAY, 1),), second[3])), (shop, first, ("fault", 0, (), second[3])),
                        (shop, first, ("fault", 1) + second[2:]), (shop, first, ("fault", -1) + second[2:]),
                        (shop, first, ("part", "till") + second[2:]), (shop, first, ("fault", "till") + second[2:]),
                        (shop, first, ("fault", 0, second[2][::-1], second[3])), (shop, first, second + ((),)),
                        (shop[:2] + (((PAY, 0), (GET, 0)), shop[3]), first, second), (("part", "till") + shop[2:], first, second),
                        (("fault", 0) + shop[2:], first, second), (shop[:2] + (((GET, 1),), shop[3]), first, second),
                        (shop[:2] + (((GET, 2),), shop[3]), first, second), (shop[:2] + ((), shop[3]), first, second),
                        (shop[:2] + (((FILL, 0),), shop[3]), first, second), (shop[:3] + (shop[3][:-1],), first, second),
                        (shop[:3] + ((),), first, second), (shop, first, second[:3] + (second[3][:-1],))):
            self.no(case, ("none", clashes))

    def test_kinds_of_clashes(self):
        faults = (("shop", FALSE),)
        clash = ("part", "shop", ((GET, 0),), keeps(TIGHT, "shop")[1])
        offers = ((GET, ((NARROW, 1),)),)
        self.assertIs(shows_chosen(SYSTEM, offers, ("none", (clash,)), faults=faults), True)
        for kind in ("parts", "fault", "faults", "", 0, None, ("part",)):
            for key in ("shop", 0, "", 1, -1, None):
                self.no((SYSTEM, offers, faults), ("none", ((kind, key) + clash[2:],)))
        self.no((SYSTEM, offers, faults), ("none", (("part", 0) + clash[2:],)))

    def test_tables_and_runs(self):
        for case, found in zip(self.cases, self.found):
            if found[0] == "choice":
                for at, table in enumerate(found[3]):
                    for other in (table[:-1], table[1:], table + table[-1:], table[::-1] if table[1:] else (), ()):
                        self.no(case, found[:3] + (found[3][:at] + (other,) + found[3][at + 1:],) + found[4:])
                for at, run in enumerate(found[4]):
                    for other in (run[:-1], run[1:], run + run[-1:], ()):
                        self.no(case, found[:4] + (found[4][:at] + (other,) + found[4][at + 1:],) + found[5:])
                self.no(case, found[:3] + (found[3][:-1],) + found[4:])
                self.no(case, found[:4] + (found[4] + ((),),) + found[5:])


def in_places(found, value):
    """The result with a value in the place of each of its members, down to those of clashes."""
    for at in range(len(found)):
        if exactly(found[at]) != exactly(value):
            yield found[:at] + (value,) + found[at + 1:]
    for at, clash in enumerate(found[-1]):
        for place in range(4):
            if exactly(clash[place]) != exactly(value):
                other = clash[:place] + (value,) + clash[place + 1:]
                yield found[:-1] + (found[-1][:at] + (other,) + found[-1][at + 1:],)
        yield found[:-1] + (found[-1][:at] + (value,) + found[-1][at + 1:],)
        for place, pick in enumerate(clash[2]):
            for part in range(2):
                if exactly(pick[part]) != exactly(value):
                    picks = clash[2][:place] + (pick[:part] + (value,) + pick[part + 1:],) + clash[2][place + 1:]
                    other = clash[:2] + (picks,) + clash[3:]
                    yield found[:-1] + (found[-1][:at] + (other,) + found[-1][at + 1:],)
    if found[0] == "choice":
        for at in (3, 4):
            for place in range(len(found[at])):
                if exactly(found[at][place]) != exactly(value):
                    yield found[:at] + (found[at][:place] + (value,) + found[at][place + 1:],) + found[at + 1:]


if __name__ == "__main__":
    unittest.main()
