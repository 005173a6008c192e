import unittest
from functools import lru_cache
from itertools import product
from random import Random

from tests import plainly
from tests.helping import ODD_VALUES, exactly, told
from tests.manysystems import kept_systems, other_edition, random_system, telling_systems
from tests.plainparts import plain_answered, plain_called
from tests.test_keeping import RING, SYSTEM, TIGHT, with_truths
from tests.test_systems import TEXT
from tests.test_wholes import GET, PAY, counter
from truestandins.editions import entries, shows_entries, shows_within, within
from truestandins.keeping import keeps
from truestandins.pacttexts import read_pact
from truestandins.parts import Part
from truestandins.systems import System

SHOP, TILL = SYSTEM.part("shop"), SYSTEM.part("till")
ANY_SHOP = Part(2, "cell n 0\ndoor get\n  draw n\n  if n = 0\n    fail\n  answer it\ndoor fill\n  answer 0")
ONCE = read_pact(2, "state 0\n  get 0 -> 0 1\n  get 1 -> 1 1\nstate 1\n  get any -> lost 1")
SOLD = System(TEXT.split("\nouter shop")[0]).with_pact(GET, ONCE)
LOST_TILL = Part(2, "port shop\ndoor pay\n  ask shop get it\n  if lost\n    answer 0\n  answer got")


def first_inner_of(part):
    return tuple(worth for _, worth in part.cells), ()


def plain_behind(part, inner, comes):
    return plain_called(part, inner, *comes[1:]) if comes[0] == "call" else plain_answered(part, inner, comes[1])


def comings(part, inner):
    if inner[1]:
        return [("answer", answer) for answer in range(-2, part.worths)]
    return [("call", door, worth) for door in part.doors for worth in range(part.worths)]


def steps_of(elder, newer, pair):
    """All (what comes, deed of the newer, pair behind it, or None if the elder cannot do it)."""
    found = []
    for comes in comings(newer, pair[0]):
        for deed, later in plain_behind(newer, pair[0], comes):
            fits = set(behind for inner in pair[1] for other, behind in plain_behind(elder, inner, comes) if other == deed)
            found.append((comes, deed, (later, tuple(sorted(fits))) if fits else None))
    return found


def plain_within(elder, newer, start=()):
    """(all pairs, how many events the shortest row beyond has; None for none)."""
    level = [(first_inner_of(newer), (first_inner_of(elder),))] + list(start)
    pairs, events = set(level), 0
    while level:
        events += 2
        laters = [later for pair in level for _, _, later in steps_of(elder, newer, pair)]
        if None in laters:
            return pairs, events
        level = sorted(set(laters) - pairs)
        pairs.update(level)
    return pairs, None


def is_row_beyond(elder, newer, row):
    if len(row) % 2 or not row:
        return False
    pairs = [(first_inner_of(newer), (first_inner_of(elder),))]
    for at in range(0, len(row), 2):
        laters = [later for pair in pairs for comes, deed, later in steps_of(elder, newer, pair)
                  if (comes, deed) == tuple(row[at:at + 2])]
        if not laters or None in laters:
            return None in laters and at == len(row) - 2
        pairs = laters
    return False


def some_editions(many=150):
    """(elder, newer): parts of many systems, and what is changed a little."""
    found = []
    for seed in range(many):
        draw = Random(seed)
        system = random_system(seed)
        part = system.part(draw.choice(system.parts))
        other = other_edition(draw, part)
        found += [(part, other), (other, part), (part, part)][:draw.randint(2, 3)]
    return found


def plain_from(system, name, starts):
    """(all scenes that come from these, how many events the shortest run to one not let has)."""
    level, scenes, events = list(starts), set(starts), 0
    while level:
        events += 1
        laters = [later for scene in level for _, later in plainly.events_at(system, name, scene)]
        if None in laters:
            return scenes, events
        level = sorted(set(laters) - scenes)
        scenes.update(level)
    return scenes, None


def is_fault_run_from(system, name, scene, run):
    scenes = [scene]
    for at, event in enumerate(run):
        laters = [later for one in scenes for known, later in plainly.events_at(system, name, one) if known == event]
        if not laters or None in laters:
            return None in laters and at == len(run) - 1
        scenes = laters
    return False


def rest_rows(system, name):
    scenes = plainly.kept_or_broken(system, name)[0]
    return sorted(set(scene[4] for scene in scenes if scene[1] == () and scene[3] == () and scene[0][1] == ()))


def entry(part, row):
    return first_inner_of(part), (), (), (), row


class Examples(unittest.TestCase):
    def test_as_they_stand(self):
        self.assertEqual([within(ANY_SHOP, SHOP)[0], len(within(ANY_SHOP, SHOP)[1]), within(SHOP, ANY_SHOP)[0]],
                         ["within", 4, "beyond"])
        self.assertEqual([row[0] for row in entries(SOLD, "shop", SOLD.part("shop"))[1] if row[1] == ()], [(0,)])


class Within(unittest.TestCase):
    def test_a_table(self):
        still = [((worth,), ()) for worth in (0, 1)]
        self.assertEqual(within(ANY_SHOP, SHOP), ("within", tuple(sorted([
            (still[1], (still[0],)), (still[0], (still[0],)), (still[0], (still[1],)), (still[1], (still[1],))]))))

    def test_rows(self):
        self.assertEqual(within(SHOP, ANY_SHOP)[1][1], ("gives", -1))
        again = ("call", "get", 0), ("gives", 0)
        more = Part(2, "cell has 1\ndoor get\n  answer it\ndoor fill\n  answer 0")
        word, row = within(SHOP, more)
        self.assertEqual((word, len(row), [event[0] for event in row]), ("beyond", 4, ["call", "gives"] * 2))
        self.assertEqual(row[1][1], row[0][2])
        self.assertIs(shows_within(SHOP, more, ("beyond", again * 2)), True)

    def test_parts_that_ask(self):
        self.assertEqual(within(TILL, TILL), ("within", (
            (((), ()), (((), ()),)), (((), (2, 0)), (((), (2, 0)),)), (((), (2, 1)), (((), (2, 1)),)))))
        self.assertEqual(within(TILL, LOST_TILL), ("beyond", (
            ("call", "pay", 0), ("asks", "shop", "get", 0), ("answer", -1), ("gives", 0))))
        other = Part(2, "port shop\ndoor pay\n  ask shop get 1\n  if lost\n    fail\n  answer got")
        self.assertEqual(within(TILL, other), ("beyond", (("call", "pay", 0), ("asks", "shop", "get", 1))))

    def test_the_part_itself(self):
        for seed in range(100):
            system = random_system(seed)
            for name in system.parts:
                self.assertEqual(within(system.part(name), system.part(name))[0], "within")

    def test_many_editions(self):
        words, waits = {"within": 0, "beyond": 0}, 0
        for elder, newer in some_editions():
            found = within(elder, newer)
            pairs, events = plain_within(elder, newer)
            words[found[0]] += 1
            if events is None:
                self.assertEqual(found, ("within", tuple(sorted(pairs))))
                waits += any(pair[0][1] for pair in pairs)
            else:
                self.assertEqual((found[0], len(found[1])), ("beyond", events))
                self.assertTrue(is_row_beyond(elder, newer, found[1]))
            self.assertIs(shows_within(elder, newer, found), True)
        self.assertGreater(min(words.values()), 50)
        self.assertGreater(waits, 30)

    def test_doors_in_any_sequence(self):
        turned = Part(2, "cell has 1\ndoor fill\n  set has 1\ndoor get\n  if has = 0\n    fail\n  set has 0\n  answer it")
        self.assertEqual(within(SHOP, turned)[0], "within")
        self.assertEqual(within(turned, SHOP)[0], "within")

    def test_parts_that_do_not_fit(self):
        two = "port p\nport q\ndoor x\n  answer 0"
        cases = [(TILL, SHOP), (SHOP, TILL), (SHOP, Part(3, SHOP.text)), (SHOP, Part(2, "door get\n  answer 0")),
                 (SHOP, Part(2, "door get\n  fail\ndoor fill\n  fail\ndoor look\n  fail")),
                 (SHOP, Part(2, "port p\n" + "door get\n  answer 0\ndoor fill\n  answer 0")),
                 (Part(2, two), Part(2, "port q\nport p\ndoor x\n  answer 0")),
                 (Part(2, two), Part(2, "port p\ndoor x\n  answer 0"))]
        for elder, newer in cases:
            for call in (lambda: within(elder, newer), lambda: shows_within(elder, newer, ("beyond", ()))):
                found = told(call)
                self.assertEqual(found[0], "BadPart")
                self.assertIs(found[1], newer)

    def test_by_name(self):
        self.assertEqual(within(elder=ANY_SHOP, newer=SHOP), within(ANY_SHOP, SHOP))
        self.assertIs(shows_within(elder=ANY_SHOP, newer=SHOP, value=within(ANY_SHOP, SHOP)), True)

    def test_whatever_elder_keeps_newer_keeps(self):
        """Guarantee (e)."""
        kept = 0
        for system in kept_systems(120):
            draw = Random(len(system.text))
            for name in system.parts:
                newer = other_edition(draw, system.part(name))
                if within(system.part(name), newer)[0] == "within":
                    found = told(lambda: system.with_part(name, newer))
                    if isinstance(found, System):
                        self.assertEqual(keeps(found, name)[0], "keeps")
                        kept += newer != system.part(name)
        self.assertGreater(kept, 40)


class ManyPairs(unittest.TestCase):
    """A newer part that counts calls by each door, and an elder one that adds up their worths."""

    def parts(self, doors):
        texts = []
        for adds in ("1", "it"):
            rows = [f"cell {cell} 0" for cell in "abc"[:len(doors)]]
            for cell, door in zip("abc", doors):
                rows += [f"door {door}", f"  add {cell} {adds}", "  answer 0"]
            texts.append(Part(4, "\n".join(rows)))
        return texts[1], texts[0]

    def every(self, doors):
        inners = [(cells, ()) for cells in product(range(4), repeat=len(doors))]
        return tuple(sorted((inner, (other,)) for inner in inners for other in inners))

    def test_256_pairs_and_4096(self):
        elder, newer = self.parts("xy")
        self.assertEqual(within(elder, newer), ("within", self.every("xy")))
        elder, newer = self.parts("xyz")
        self.assertEqual(len(self.every("xyz")), 4096)
        self.assertEqual(told(lambda: within(elder, newer)), ("TooMany", 4000))
        self.assertIs(shows_within(elder, newer, ("within", self.every("xyz"))), True)
        self.assertIs(shows_within(elder, newer, ("within", self.every("xyz")[1:])), False)

    def test_a_short_row_among_many_pairs(self):
        elder, newer = self.parts("xyz")
        worse = Part(4, newer.text[:-1] + "c")
        word, row = within(elder, worse)
        self.assertEqual((word, row), ("beyond", (("call", "z", row[0][2]), ("gives", 1))))


class ShowsWithin(unittest.TestCase):
    def setUp(self):
        self.cases = [(ANY_SHOP, SHOP), (SHOP, ANY_SHOP), (TILL, TILL), (TILL, LOST_TILL)]
        self.cases += [case for case in some_editions(40) if len(within(*case)[1]) < 20][:20]

    def no(self, case, value):
        self.assertIs(shows_within(case[0], case[1], value), False)

    def test_values_of_any_kind(self):
        for case in self.cases:
            found = within(*case)
            for value in ODD_VALUES:
                self.no(case, value)
                self.no(case, (found[0], value))
                self.no(case, (value, found[1]))
                self.no(case, (found[0], (value,)))
                for at, member in enumerate(found[1]):
                    self.no(case, (found[0], found[1][:at] + (value,) + found[1][at + 1:]))
                    for place in range(len(member)):
                        if exactly(value) != exactly(member[place]):
                            other = member[:place] + (value,) + member[place + 1:]
                            self.no(case, (found[0], found[1][:at] + (other,) + found[1][at + 1:]))
            for value in (list(found), found + ((),), found[:1], (found[0], list(found[1])), ("within",), ("beyond", ()),
                          ("within", ()), ("beyond" if found[0] == "within" else "within", found[1])):
                self.no(case, value)

    def test_truths(self):
        swapped = 0
        for case in self.cases:
            for other in with_truths(within(*case)):
                self.no(case, other)
                swapped += 1
        self.assertGreater(swapped, 300)

    def test_members_left_out_twice_and_out_of_sequence(self):
        for case in self.cases:
            word, rows = within(*case)
            for at in range(len(rows)):
                for other in (rows[:at] + rows[at + 1:], rows[:at + 1] + rows[at:],
                              rows[:at - 1] + (rows[at], rows[at - 1]) + rows[at + 1:] if at else ()):
                    right = word == "beyond" and is_row_beyond(case[0], case[1], other)
                    self.assertIs(shows_within(case[0], case[1], (word, other)), right)

    def test_greater_closed_tables(self):
        grown, refused = 0, 0
        for elder, newer in self.cases:
            word, table = within(elder, newer)
            if word == "beyond":
                continue
            inners = sorted(set(pair[0] for pair in table))
            others = sorted(set(inner for pair in table for inner in pair[1]))
            extra = [(inner, (other,)) for inner in inners for other in others]
            extra += [(inner, tuple(others)) for inner in inners] + [(inner, ()) for inner in inners]
            extra += [(inner, tuple(others[:2][::-1])) for inner in inners]
            for pair in extra:
                if pair in table:
                    continue
                alike = len(set(bool(inner[1]) for inner in (pair[0],) + pair[1])) == 1
                pairs, events = plain_within(elder, newer, [pair]) if alike else (set(table) | {pair}, None)
                right = alike and events is None and pair[1] == tuple(sorted(set(pair[1])))
                self.assertIs(shows_within(elder, newer, ("within", tuple(sorted(pairs)))), right, pair)
                grown += right
                refused += not right
        self.assertGreater(grown, 10)
        self.assertGreater(refused, 50)

    def test_longer_rows(self):
        fill = ("call", "fill", 0), ("gives", 0)
        for many in (0, 1, 2, 500):
            self.assertIs(shows_within(SHOP, ANY_SHOP, ("beyond", fill * many + (("call", "get", 1), ("gives", -1)))), True)
        for row in (fill, fill[:1], (("call", "get", 1), ("gives", 1)), (("call", "get", 1), ("gives", 0)),
                    (("gives", -1),), fill + (("call", "get", 1),), fill + fill[:1] + (("call", "get", 1), ("gives", -1)),
                    (("call", "get", 1), ("gives", -1)) * 2, (("answer", 0), ("gives", -1)), (("call", "got", 1), ("gives", -1)),
                    (("call", "get", 2), ("gives", -1)), ((("call", "get", 1), ("gives", -1)),)):
            self.no((SHOP, ANY_SHOP), ("beyond", row))


class Entries(unittest.TestCase):
    @staticmethod
    @lru_cache(None)
    def cases():
        found = [(SYSTEM, "shop", SHOP), (SYSTEM, "till", TILL), (SOLD, "shop", SHOP), (SYSTEM, "shop", ANY_SHOP),
                 (SOLD, "till", LOST_TILL), (RING, "a", RING.part("a"))]
        for seed, system in enumerate(kept_systems(60) + telling_systems(100)):
            draw = Random(seed)
            name = draw.choice(system.parts)
            newer = other_edition(draw, system.part(name)) if draw.random() < 0.6 else system.part(name)
            if isinstance(told(lambda: system.with_part(name, newer)), System):
                found.append((system, name, newer))
        return found

    def test_many(self):
        runs = {True: 0, False: 0}
        both = 0
        for system, name, newer in self.cases():
            word, rows, table = entries(system, name, newer)
            changed = system.with_part(name, newer)
            self.assertEqual((word, [row for row, _ in rows]), ("entries", rest_rows(system, name)))
            kept = set()
            for row, run in rows:
                scenes, events = plain_from(changed, name, [entry(newer, row)])
                runs[run == ()] += 1
                if events is None:
                    self.assertEqual(run, ())
                    kept |= scenes
                else:
                    self.assertEqual(len(run), events)
                    self.assertTrue(is_fault_run_from(changed, name, entry(newer, row), run))
            self.assertEqual(table, tuple(sorted(kept)))
            both += len(set(run == () for _, run in rows)) == 2
            self.assertIs(shows_entries(system, name, newer, (word, rows, table)), True)
        self.assertGreater(min(runs.values()), 20)
        self.assertGreater(both, 4)

    def test_sold(self):
        word, rows, table = entries(SOLD, "shop", SHOP)
        self.assertEqual([row for row, _ in rows], [(0,), (1,)])
        self.assertEqual((rows[0][1], len(rows[1][1])), ((), 2))
        self.assertEqual(table, keeps(SOLD, "shop")[1])

    def test_errors(self):
        calls = (entries, lambda system, name, newer: shows_entries(system, name, newer, ()))
        for call in calls:
            for value in ODD_VALUES:
                self.assertEqual(exactly(told(lambda: call(TIGHT, value, 3))), exactly(("NoPart", value)))
                self.assertEqual(exactly(told(lambda: call(TIGHT, "shop", value))), exactly(("BadPart", value)))
            self.assertEqual(told(lambda: call(SYSTEM, "shop", TILL)), ("BadPart", TILL))
            self.assertEqual(told(lambda: call(SYSTEM, "shop", Part(3, SHOP.text)))[0], "BadPart")
            self.assertEqual(told(lambda: call(TIGHT, "shop", SHOP)), ("NotKept", "shop"))

    def test_the_part_alone_has_to_keep(self):
        # The shop breaks; that does not matter to the till.
        self.assertEqual(entries(TIGHT, "till", TILL)[1], (((0, 0), ()),))

    def test_by_name(self):
        found = entries(system=SOLD, name="shop", newer=SHOP)
        self.assertEqual(found, entries(SOLD, "shop", SHOP))
        self.assertIs(shows_entries(system=SOLD, name="shop", newer=SHOP, value=found), True)

    def test_too_many(self):
        many = counter([10] + [9] * 399)
        self.assertEqual(told(lambda: entries(many, "a", many.part("a"))), ("TooMany", 4000))
        self.assertIs(shows_entries(many, "a", many.part("a"), ("entries", (), ())), False)
        # The part has 4000 scenes; the newer one, with a cell beside, has more.
        system = counter([9] * 400)
        self.assertEqual(len(entries(system, "a", system.part("a"))[2]), 4000)
        newer = Part(4, "cell n 0\ndoor a\n  add n 1\n  answer 0\ndoor b\n  add n 1\n  answer 0\ndoor c\n  answer 0")
        self.assertEqual(told(lambda: entries(system, "a", newer)), ("TooMany", 4000))
        # From each row there is a short run.
        worse = Part(4, "cell n 0\ndoor a\n  add n 1\n  answer 1\ndoor b\n  fail\ndoor c\n  fail")
        word, rows, table = entries(system, "a", worse)
        self.assertEqual((word, len(rows), table, set(len(run) for _, run in rows)), ("entries", 400, (), {2}))
        self.assertIs(shows_entries(system, "a", worse, (word, rows, table)), True)

    def test_scenes_of_all_rows_together(self):
        # A ring of states, and a newer part that counts to 16: from each row others of its numbers come.
        newer = Part(4, "cell m 0\ncell n 0\ndoor x\n  add m 1\n  if m = 0\n    add n 1\n  answer 0")
        for many, of_one, of_all in ((50, 2000, 4000), (52, 1040, 4160)):
            rows = [f"  state {at}\n    x any -> 0 {(at + 1) % many}" for at in range(many)]
            system = System("worths 4\npart a\n  door x\n    answer 0\nouter a\n" + "\n".join(rows))
            changed = system.with_part("a", newer)
            self.assertEqual(len(plain_from(changed, "a", [entry(newer, (0,))])[0]), of_one)
            scenes, events = plain_from(changed, "a", [entry(newer, (at,)) for at in range(many)])
            self.assertEqual((len(scenes), events), (of_all, None))
            value = ("entries", tuple(((at,), ()) for at in range(many)), tuple(sorted(scenes)))
            self.assertEqual(told(lambda: entries(system, "a", newer)), value if of_all <= 4000 else ("TooMany", 4000))
            self.assertIs(shows_entries(system, "a", newer, value), True)


class ShowsEntries(unittest.TestCase):
    def setUp(self):
        self.cases = [(SYSTEM, "shop", SHOP), (SOLD, "shop", SHOP), (SOLD, "till", LOST_TILL)]
        more = [case for case in Entries.cases() if 1 < len(entries(*case)[2]) < 30]
        mixed = [case for case in more if len(set(run == () for _, run in entries(*case)[1])) == 2]
        self.cases += mixed[:6] + more[:6]

    def no(self, case, value):
        self.assertIs(shows_entries(*case, value), False)

    def test_values_of_any_kind(self):
        for case in self.cases:
            found = entries(*case)
            for value in ODD_VALUES:
                self.no(case, value)
                for at in range(3):
                    if exactly(value) != exactly(found[at]):
                        self.no(case, found[:at] + (value,) + found[at + 1:])
                self.no(case, found[:2] + ((value,),))
                for at, row in enumerate(found[1]):
                    self.rows(case, found, at, value)
                    for place in range(2):
                        if exactly(value) != exactly(row[place]):
                            self.rows(case, found, at, row[:place] + (value,) + row[place + 1:])
            for value in (list(found), found + ((),), found[:2], (found[0], list(found[1]), found[2]), found[:2] + (list(found[2]),)):
                self.no(case, value)

    def rows(self, case, found, at, row):
        self.no(case, (found[0], found[1][:at] + (row,) + found[1][at + 1:], found[2]))

    def test_truths(self):
        swapped = 0
        for case in self.cases:
            for other in with_truths(entries(*case)):
                self.no(case, other)
                swapped += 1
        self.assertGreater(swapped, 300)

    def test_rows_and_scenes_left_out_twice_and_out_of_sequence(self):
        for case in self.cases:
            found = entries(*case)
            for place in (1, 2):
                rows = found[place]
                for at in range(len(rows)):
                    others = [rows[:at] + rows[at + 1:], rows[:at + 1] + rows[at:]]
                    others += [rows[:at - 1] + (rows[at], rows[at - 1]) + rows[at + 1:]] if at else []
                    for other in others:
                        self.no(case, found[:place] + (other,) + found[place + 1:])

    def test_runs(self):
        for case in self.cases:
            found = entries(*case)
            changed = case[0].with_part(*case[1:])
            for at, (row, run) in enumerate(found[1]):
                if run:
                    self.rows(case, found, at, (row, ()))
                    for other in [run[:-1], run[1:], run + run[-1:], list(run)] + [run[:1] + run] * 2:
                        self.rows(case, found, at, (row, other))
                    for other, good in [(found[1][to][1], to) for to in range(len(found[1])) if to != at]:
                        right = is_fault_run_from(changed, case[1], entry(case[2], row), other)
                        value = (found[0], found[1][:at] + ((row, other),) + found[1][at + 1:], found[2])
                        self.assertIs(shows_entries(*case, value), right)

    def test_longer_runs(self):
        word, rows, table = entries(SOLD, "shop", SHOP)
        get = (GET, "call", "get", 0), (GET, "answer", 0)
        lost = (GET, "call", "get", 1), (GET, "answer", -1)
        self.assertIs(shows_entries(SOLD, "shop", SHOP, (word, (rows[0], ((1,), get)), table)), True)
        self.assertIs(shows_entries(SOLD, "shop", SHOP, (word, (rows[0], ((1,), get + lost)), table)), False)
        self.assertIs(shows_entries(SOLD, "shop", SHOP, (word, (((0,), get), rows[1]), table)), False)
        self.assertIs(shows_entries(SOLD, "shop", SHOP, (word, (((0,), get + lost), rows[1]), table)), False)

    def test_greater_closed_tables(self):
        grown = 0
        for system, name, newer in self.cases:
            found = entries(system, name, newer)
            changed = system.with_part(name, newer)
            wires = [wire for wire in system.wires if name in (wire[0], system.offerer(wire))]
            cells = product(range(system.worths), repeat=len(newer.cells))
            for inner, row in product(cells, product(*[range(len(system.pact(wire))) for wire in wires])):
                scene = ((inner, ()), (), (), (), row)
                if scene not in found[2]:
                    scenes, events = plain_from(changed, name, set(found[2]) | {scene})
                    value = found[:2] + (tuple(sorted(scenes)),)
                    self.assertIs(shows_entries(system, name, newer, value), events is None)
                    grown += events is None
        self.assertGreater(grown, 2)

    def test_all_entries_are_in_the_table(self):
        for case in self.cases:
            found = entries(*case)
            changed = case[0].with_part(*case[1:])
            good = [row for row, run in found[1] if run == ()]
            for left in good:
                rest = plain_from(changed, case[1], [entry(case[2], row) for row in good if row != left])[0]
                if len(rest) < len(found[2]):
                    self.no(case, found[:2] + (tuple(sorted(rest)),))


if __name__ == "__main__":
    unittest.main()
