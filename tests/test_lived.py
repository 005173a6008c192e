import unittest

from tests import plainly, plainwhole
from tests.helping import ODD_VALUES, exactly, told
from tests.manysystems import kept_systems, random_system
from tests.test_keeping import RING, SYSTEM, TIGHT, with_truths
from tests.test_wholes import FILL, GET, PAY, ROUND, counter
from truestandins.keeping import keeps
from truestandins.lived import lived, shows_lived
from truestandins.pacttexts import read_pact
from truestandins.systems import System
from truestandins.wholes import whole

FLIP = System(
    "worths 2\npart pair\n  cell a 0\n  port s\n  door pay\n    ask s get 0\n    set a got\n    ask s get 0\n"
    "    if got = a\n      answer 1\npart flip\n  cell n 0\n  door get\n    add n 1\n    answer n\nwire pair s flip\n"
    "  state 0\n    get 0 -> any 0\nouter pair\n  state 0\n    pay 0 -> any 0")

# The answer 1 to x is needed by flip's answers that are alike; behind it stands a call that no run comes to,
# and behind this one, by a ring of needed items, the answers of b.
DEEP = System(
    "worths 2\npart pair\n  cell a 0\n  port s\n  port b\n  door pay\n    ask s get 0\n    set a got\n    ask s get 0\n"
    "    if got = a\n      ask b tell 1\n      answer 1\npart flip\n  cell n 0\n  door get\n    add n 1\n    answer n\n"
    "part b\n  port p\n  door tell\n    ask p go it\n    answer got\npart c\n  door go\n    answer it\n"
    "wire pair s flip\n  state 0\n    get 0 -> any 0\nwire pair b b\n  state 0\n    tell any -> any 0, lost 0\n"
    "wire b p c\n  state 0\n    go any -> any 0\nouter pair\n  state 0\n    pay 0 -> any 0, lost 1\n  state 1\n    pay 1 -> 0 0")


def words(system):
    return {item: word for item, word, _ in lived(system)[1]}


def run_items(system, name, run):
    """The item of each event of a run of a part, and whether it is the part's own; None if it is no run."""
    scenes, found = [plainly.first_scene(system, name)], []
    for event in run:
        moves = [(scene, later) for scene in scenes for known, later in plainly.events_at(system, name, scene)
                 if known == event]
        if not moves:
            return None
        found.append((plainwhole.item_of_scene(system, name, moves[0][0], event), bool(moves[0][0][3])))
        scenes = [later for _, later in moves]
    return found


def whole_run_items(system, run):
    moments, found = [plainwhole.first_moment(system)], []
    for event in run:
        moves = [(moment, later) for moment in moments for known, later in plainwhole.events_of(system, moment)
                 if known == event]
        if not moves:
            return None
        found.append(plainwhole.item_of_moment(system, moves[0][0], event))
        moments = [later for _, later in moves]
    return found


def small_systems(many, first):
    """Systems all parts of which keep their pacts, with few moments and scenes."""
    found = kept_systems(many, first)
    return [system for system in found if max(len(table) for table in (lived(system)[2],) + lived(system)[3]) < 30]


class Examples(unittest.TestCase):
    def test_as_they_stand(self):
        self.assertEqual([row[0] for row in lived(SYSTEM)[1] if row[1] == "spare"], [
            (("", "till"), 0, "pay", 0, 1), (("", "till"), 0, "pay", 1, 0), (("till", "shop"), 0, "get", 0, 1),
            (("till", "shop"), 0, "get", 1, 0)])
        self.assertEqual([row[:2] for row in lived(FLIP)[1] if row[1] != "whole"],
                         [((("", "pair"), 0, "pay", 0, 1), "needed")])


class Lived(unittest.TestCase):
    def test_each_item_once_ascending(self):
        for system in [SYSTEM, FLIP, DEEP, RING, ROUND] + kept_systems(40):
            found = lived(system)
            self.assertEqual((found[0], len(found)), ("rows", 4))
            self.assertEqual(tuple(item for item, _, _ in found[1]), plainwhole.all_items(system))

    def test_words_and_evidence_of_many_systems(self):
        met = {"whole": 0, "needed": 0, "spare": 0}
        for system in [SYSTEM, FLIP, DEEP, RING, ROUND] + kept_systems(200):
            _, rows, moments, tables = lived(system)
            events, least = plainwhole.whole_items(system), plainwhole.least_set(system)
            self.assertEqual(moments, whole(system)[1])
            self.assertEqual(tables, tuple(
                tuple(sorted(plainwhole.beside(system, name, least)[0])) for name in system.parts))
            ranks = {item: evidence[0] for item, word, evidence in rows if word == "needed"}
            for item, word, evidence in rows:
                met[word] += 1
                if word == "whole":
                    self.assertEqual(len(evidence), events[item])
                    self.assertEqual(whole_run_items(system, evidence)[-1], item)
                elif word == "needed":
                    self.assertNotIn(item, events)
                    self.assertIn(item, least)
                    self.check_needed(system, item, evidence, events, ranks)
                else:
                    self.assertEqual((word, evidence), ("spare", ()))
                    self.assertFalse(item in events or item in least)
        self.assertGreater(min(met.values()), 50)

    def check_needed(self, system, item, evidence, events, ranks):
        rank, name, run = evidence
        self.assertEqual(name, system.offerer(item[0]) if len(item) == 5 else item[0][0])
        self.assertGreaterEqual(rank, 0)
        items = run_items(system, name, run)
        self.assertEqual(items[-1], (item, True))
        for other, own in items[:-1]:
            outer = other[0][0] == "" and len(other) == 4
            self.assertTrue(own or outer or other in events or ranks.get(other, rank) < rank)

    def test_ranks_that_need_one_another(self):
        found = {item: (word, evidence) for item, word, evidence in lived(DEEP)[1]}
        tell, go = (("pair", "b"), 0, "tell", 1), (("b", "p"), 0, "go", 1)
        order = [found[item] for item in (tell, go, go + (1,), tell + (1,))]
        self.assertEqual([word for word, _ in order], ["needed"] * 4)
        ranks = [evidence[0] for _, evidence in order]
        self.assertEqual(ranks, sorted(set(ranks)))
        self.assertEqual([evidence[1] for _, evidence in order], ["pair", "b", "c", "b"])
        self.assertEqual(found[(("", "pair"), 0, "pay", 0, -1)], ("spare", ()))

    def test_a_call_of_the_outside_that_no_run_comes_to(self):
        system = SYSTEM.with_pact(FILL, read_pact(2, "state 0\n  fill 0 -> 0 0, 1 1\nstate 1\n  fill 1 -> 0 0, 1 0"))
        found = words(system)
        self.assertEqual(found[(FILL, 1, "fill", 1)], "spare")
        self.assertEqual(found[(FILL, 1, "fill", 1, 0)], "spare")
        self.assertEqual(found[(FILL, 0, "fill", 0, 1)], "spare")
        self.assertEqual(found[(FILL, 0, "fill", 0)], "whole")
        # Beside FLIP's stand-in the answer 1 comes, and behind it the outside calls.
        flip = FLIP.with_pact(("", "pair"), read_pact(2, "state 0\n  pay 0 -> 0 0, 1 1\nstate 1\n  pay 1 -> any 1"))
        self.assertEqual(words(flip)[(("", "pair"), 1, "pay", 1)], "spare")
        self.assertEqual([words(flip)[(("", "pair"), 1, "pay", 1, answer)] for answer in (0, 1)], ["needed", "needed"])
        self.assertIs(shows_lived(flip, lived(flip)), True)

    def test_states_that_nothing_leads_to(self):
        system = SYSTEM.with_pact(GET, read_pact(
            2, "state 0\n  get any -> any 0, lost 0\nstate 1\n  get any -> any 0\n  fill 1 -> busy 1"))
        found = words(system)
        self.assertEqual(set(word for item, word in found.items() if item[:2] == (GET, 1)), {"spare"})

    def test_equal_calls(self):
        self.assertEqual(lived(system=DEEP), lived(DEEP))
        self.assertIs(shows_lived(system=DEEP, value=lived(DEEP)), True)


class NotKept(unittest.TestCase):
    def test_the_first_part_that_breaks(self):
        self.assertEqual(told(lambda: lived(TIGHT)), ("NotKept", "shop"))
        both = TIGHT.with_pact(PAY, read_pact(2, "state 0\n  pay any -> lost 0"))
        self.assertEqual(told(lambda: lived(both)), ("NotKept", "till"))
        for value in ODD_VALUES:
            self.assertEqual(told(lambda: shows_lived(both, value)), ("NotKept", "till"))

    def test_many_systems(self):
        broken = 0
        for seed in range(200):
            system = random_system(seed)
            names = [name for name in system.parts if keeps(system, name)[0] == "breaks"]
            for found in (told(lambda: lived(system)), told(lambda: shows_lived(system, ()))):
                if names:
                    self.assertEqual(found, ("NotKept", names[0]))
                    broken += 1
        self.assertGreater(broken, 50)

    def test_too_many_scenes_go_ahead(self):
        many = counter([10] + [9] * 399)
        self.assertEqual(told(lambda: lived(many)), ("TooMany", 4000))
        self.assertIs(shows_lived(many, ("rows", (), (), ())), False)
        pact = many.pact(("", "a"))
        broken = many.with_pact(("", "a"), pact[:-1] + ((("a", 0, ((1, 0),)),) + pact[-1][1:],))
        self.assertEqual(told(lambda: lived(broken)), ("TooMany", 4000))
        self.assertEqual(told(lambda: shows_lived(broken, ())), ("NotKept", "a"))


class RowsThatAreCut(unittest.TestCase):
    """Guarantee (b), of rows."""

    def test_spare_ones_and_others(self):
        cut = {True: 0, False: 0}
        for system in [SYSTEM, FLIP, DEEP, RING, ROUND] + kept_systems(40, 500):
            rows = lived(system)[1]
            spare = [item for item, word, _ in rows if word == "spare"]
            self.assertTrue(self.all_keep(without(system, spare, rows)))
            # Calls of the outside are always let: needed items may rest on one that no run comes to.
            spare = [item for item in spare if len(item) == 5 or item[0][0]]
            for item, word, _ in rows:
                if len(item) == 4 and item[0][0] == "":
                    continue
                kept = self.all_keep(without(system, spare + [item], rows))
                self.assertEqual(kept, word == "spare", item)
                self.assertFalse(word != "spare" and self.all_keep(without(system, [item], rows)))
                cut[kept] += 1
        self.assertGreater(min(cut.values()), 50)

    def all_keep(self, system):
        return all(plainly.kept_or_broken(system, name)[1] is None for name in system.parts)


class Cut:
    """A system without items; a call may stand in a pact without any answer here."""

    def __init__(self, system, pacts):
        self.system, self.pacts = system, pacts
        self.parts, self.wires = system.parts, system.wires
        self.part, self.offerer = system.part, system.offerer

    def pact(self, wire):
        return self.pacts[wire]


def without(system, items, rows):
    pacts = {}
    for wire in system.wires:
        states = []
        for number, state in enumerate(system.pact(wire)):
            left = []
            for door, worth, outcomes in state:
                if (wire, number, door, worth) not in items:
                    left.append((door, worth, tuple(
                        outcome for outcome in outcomes if (wire, number, door, worth, outcome[0]) not in items)))
            states.append(tuple(left))
        pacts[wire] = tuple(states)
    return Cut(system, pacts)


class Shows(unittest.TestCase):
    cases = (SYSTEM, FLIP, DEEP, RING)

    def no(self, system, value):
        self.assertIs(shows_lived(system, value), False)

    def test_what_lived_tells(self):
        for system in list(self.cases) + [ROUND] + kept_systems(100, 900):
            self.assertIs(shows_lived(system, lived(system)), True)

    def test_values_of_any_kind(self):
        for system in self.cases:
            found = lived(system)
            for value in ODD_VALUES:
                self.no(system, value)
                for at in range(4):
                    self.no(system, found[:at] + (value,) + found[at + 1:])
                self.no(system, found[:2] + ((value,),) + found[3:])
                for at in range(len(found[3])):
                    self.no(system, found[:3] + (found[3][:at] + (value,) + found[3][at + 1:],))
                    self.no(system, found[:3] + (found[3][:at] + ((value,),) + found[3][at + 1:],))
                for at, row in enumerate(found[1]):
                    self.row(system, found, at, value)
                    for place in range(3):
                        if exactly(row[place]) != exactly(value):
                            self.row(system, found, at, row[:place] + (value,) + row[place + 1:])
                    if row[1] == "needed":
                        for place in (1, 2):
                            evidence = row[2][:place] + (value,) + row[2][place + 1:]
                            self.row(system, found, at, row[:2] + (evidence,))
                        if type(value) is not int or value < 0:
                            self.row(system, found, at, row[:2] + ((value,) + row[2][1:],))
            for value in (list(found), found + ((),), found[:3], ("row",) + found[1:], found[:1] + (list(found[1]),) + found[2:]):
                self.no(system, value)

    def row(self, system, found, at, row):
        """A row that makes the value one that is not right."""
        self.no(system, found[:1] + (found[1][:at] + (row,) + found[1][at + 1:],) + found[2:])

    def test_rows_left_out_twice_and_out_of_sequence(self):
        for system in self.cases:
            found = lived(system)
            rows = found[1]
            for at in range(len(rows)):
                for other in (rows[:at] + rows[at + 1:], rows[:at] + rows[at:at + 1] + rows[at:],
                              rows[:at - 1] + (rows[at], rows[at - 1]) + rows[at + 1:] if at else ()):
                    self.no(system, found[:1] + (other,) + found[2:])

    def test_words_of_others(self):
        for system in self.cases:
            found = lived(system)
            for at, (item, word, evidence) in enumerate(found[1]):
                run = evidence[2] if word == "needed" else evidence
                for other in ("whole", "needed", "spare"):
                    if other != word:
                        for proof in ((), run, (0, item[0][0], run), (0, system.offerer(item[0]), run), evidence):
                            self.row(system, found, at, (item, other, proof))

    def test_longer_whole_runs(self):
        fill = ((FILL, "call", "fill", 0), (FILL, "answer", 0))
        found = lived(SYSTEM)
        for at, (item, word, run) in enumerate(found[1]):
            if word == "whole":
                for many in (1, 2, 300):
                    rows = found[1][:at] + ((item, word, fill * many + run),) + found[1][at + 1:]
                    self.assertIs(shows_lived(SYSTEM, found[:1] + (rows,) + found[2:]), True)
                for other in (run + run[-1:], run + fill[:1], run[:-1], fill + run[:-1], run[1:], (), run + fill):
                    if whole_run_items(SYSTEM, other) is None or whole_run_items(SYSTEM, other)[-1:] != [item]:
                        self.row(SYSTEM, found, at, (item, word, other))

    def test_runs_that_are_not_right(self):
        for system in self.cases:
            found = lived(system)
            for at, (item, word, evidence) in enumerate(found[1]):
                if word == "spare":
                    continue
                run = evidence if word == "whole" else evidence[2]
                others = [run[:place] + run[place + 1:] for place in range(len(run))]
                others += [run[:place] + (run[place],) + run[place:] for place in range(len(run))]
                others += [run[:place] + (list(run[place]),) + run[place + 1:] for place in range(len(run))]
                others += list(with_truths(run)) + [list(run), run + ((),)]
                for other in others:
                    # A run that is cut or doubled may be another right one.
                    if isinstance(other, tuple) and exactly(other) in self.right(system, item, word, evidence, others):
                        continue
                    self.row(system, found, at, (item, word, other if word == "whole" else evidence[:2] + (other,)))

    def right(self, system, item, word, evidence, others):
        good = set()
        for other in others:
            if isinstance(other, tuple) and all(isinstance(event, tuple) and len(event) > 2 for event in other):
                if "True" in exactly(other) or "False" in exactly(other):
                    continue
                items = whole_run_items(system, other) if word == "whole" else run_items(system, evidence[1], other)
                if items and (items[-1] == item if word == "whole" else items[-1] == (item, True)):
                    good.add(exactly(other))
        return good

    def test_ranks(self):
        found = lived(DEEP)
        ranks = {item: evidence[0] for item, word, evidence in found[1] if word == "needed"}

        def with_ranks(change):
            rows = tuple((item, word, (change(item, evidence[0]),) + evidence[1:] if word == "needed" else evidence)
                         for item, word, evidence in found[1])
            return found[:1] + (rows,) + found[2:]

        self.assertIs(shows_lived(DEEP, with_ranks(lambda item, rank: 5 * rank + 7)), True)
        self.no(DEEP, with_ranks(lambda item, rank: 0))
        self.no(DEEP, with_ranks(lambda item, rank: -rank))
        self.no(DEEP, with_ranks(lambda item, rank: bool(rank) if rank < 2 else rank))
        for changed in ranks:
            for rank in range(-1, max(ranks.values()) + 2):
                right = rank >= 0
                if rank != ranks[changed]:
                    new = {item: rank if item == changed else old for item, old in ranks.items()}
                    for item, word, evidence in found[1]:
                        if word == "needed":
                            for other, own in run_items(DEEP, evidence[1], evidence[2])[:-1]:
                                right = right and (own or new.get(other, -1) < new[item])
                    value = with_ranks(lambda item, old: rank if item == changed else old)
                    self.assertIs(shows_lived(DEEP, value), right)

    def test_another_name(self):
        found = lived(DEEP)
        for at, (item, word, evidence) in enumerate(found[1]):
            if word == "needed":
                for name in DEEP.parts + ("", "zz"):
                    if name != evidence[1]:
                        self.row(DEEP, found, at, (item, word, (evidence[0], name, evidence[2])))

    def test_the_other_end_of_a_wire(self):
        # Its runs come to the item as well, but the item is not its own event.
        found = lived(DEEP)
        tell, go = (("pair", "b"), "call", "tell", 1), (("b", "p"), "call", "go", 1)
        runs = {(("pair", "b"), 0, "tell", 1): ("b", (tell,)), (("b", "p"), 0, "go", 1): ("c", (go,)),
                (("b", "p"), 0, "go", 1, 1): ("b", (tell, go, (("b", "p"), "answer", 1)))}
        for at, (item, word, _) in enumerate(found[1]):
            if item in runs:
                name, run = runs[item]
                self.assertEqual(word, "needed")
                self.assertEqual([other for other, _ in run_items(DEEP, name, run)][-1], item)
                for rank in (0, 2, 900):
                    self.row(DEEP, found, at, (item, word, (rank, name, run)))

    def test_own_events_may_have_any_rank(self):
        # Behind its answer 1, which no run of the whole comes to, the pair is called once more.
        outer = ("", "pair")
        flip = FLIP.with_pact(outer, read_pact(2, "state 0\n  pay 0 -> 0 0, 1 1\nstate 1\n  pay 1 -> any 1"))
        found = lived(flip)
        first, later = (outer, 0, "pay", 0, 1), (outer, 1, "pay", 1, 0)
        evidence = {item: proof for item, word, proof in found[1] if word == "needed"}
        self.assertEqual(sorted(evidence), [first, later, later[:4] + (1,)])
        self.assertIn((first, True), run_items(flip, "pair", evidence[later][2]))
        for ranks in ((0, 0, 0), (7, 0, 3), (0, 7, 7), (900, 1, 0)):
            told_ranks = dict(zip(sorted(evidence), ranks))
            rows = tuple((item, word, (told_ranks[item],) + proof[1:] if word == "needed" else proof)
                         for item, word, proof in found[1])
            self.assertIs(shows_lived(flip, found[:1] + (rows,) + found[2:]), True)

    def test_runs_of_parts_by_spare_items(self):
        # An answer that nobody gives would make the till answer 1; what rests on it shows nothing.
        pact = read_pact(2, "state 0\n  get any -> any 0, lost 0")
        found = lived(SYSTEM.with_pact(GET, pact))
        rows = {item: word for item, word, _ in found[1]}
        item = (PAY, 0, "pay", 0, 1)
        self.assertEqual(rows[item], "spare")
        run = ((PAY, "call", "pay", 0), (GET, "call", "get", 0), (GET, "answer", 1), (PAY, "answer", 1))
        at = [row[0] for row in found[1]].index(item)
        self.row(SYSTEM, found, at, (item, "needed", (3, "till", run)))

    def test_all_needed_by_one_another_is_not_enough(self):
        # With the tables beside all answers, spare items would hold one another up; ranks forbid it.
        found = lived(SYSTEM)
        spare = [item for item, word, _ in found[1] if word == "spare"]
        tables = tuple(keeps(SYSTEM, name)[1] for name in SYSTEM.parts)
        rows = []
        for item, word, evidence in found[1]:
            if item in spare and item[0] == PAY:
                run = ((PAY, "call", "pay", item[3]), (GET, "call", "get", item[3]), (GET, "answer", item[4]),
                       (PAY, "answer", item[4]))
                rows.append((item, "needed", (2, "till", run)))
            else:
                rows.append((item, word, evidence))
        self.no(SYSTEM, ("rows", tuple(rows), found[2], tables))

    def test_greater_tables(self):
        grown = 0
        for system in [SYSTEM, DEEP] + small_systems(40, 1300):
            found = lived(system)
            least = plainwhole.least_set(system)
            for at, name in enumerate(system.parts):
                for scene in keeps(system, name)[1][:60]:
                    if scene not in found[3][at]:
                        scenes, own = plainwhole.beside(system, name, least, [scene])
                        table = tuple(sorted(scenes))
                        value = found[:3] + (found[3][:at] + (table,) + found[3][at + 1:],)
                        self.assertIs(shows_lived(system, value), own <= least)
                        grown += own <= least
                        extra = tuple(sorted(found[3][at] + (scene,)))
                        value = found[:3] + (found[3][:at] + (extra,) + found[3][at + 1:],)
                        self.assertIs(shows_lived(system, value), own <= least and extra == table)
                table = found[3][at]
                for left in range(len(table)):
                    self.no(system, found[:3] + (found[3][:at] + (table[:left] + table[left + 1:],) + found[3][at + 1:],))
                self.no(system, found[:3] + (found[3][:at] + (table[::-1],) + found[3][at + 1:],) if table[1:] else ())
        self.assertGreater(grown, 20)

    def test_greater_and_lesser_tables_of_moments(self):
        grown = 0
        for system in [SYSTEM, FLIP] + small_systems(60, 1700):
            found = lived(system)
            items = set(plainwhole.whole_items(system))
            for at in range(len(found[2])):
                self.no(system, found[:2] + (found[2][:at] + found[2][at + 1:],) + found[3:])
            for moment in found[2]:
                inners, stack, given, states = moment
                for number, pact in enumerate(system.pact(wire) for wire in system.wires):
                    for state in range(len(pact)):
                        other = (inners, stack, given, states[:number] + (state,) + states[number + 1:])
                        if other in found[2] or not plainwhole.is_moment(system, other):
                            continue
                        moments, events = plainwhole.kept_or_broken(system, [other])
                        if events is None and all(plainwhole.is_moment(system, later) for later in moments):
                            met = set(plainwhole.item_of_moment(system, later, event) for later in moments
                                      for event, _ in plainwhole.events_of(system, later))
                            value = found[:2] + (tuple(sorted(moments)),) + found[3:]
                            self.assertIs(shows_lived(system, value), met == items)
                            grown += met == items
        self.assertGreater(grown, 5)

    def test_of_another_system(self):
        self.no(FLIP, lived(DEEP))
        self.no(SYSTEM, lived(RING))


if __name__ == "__main__":
    unittest.main()
