"""Section 3 over drawn systems of two to four parts, before and behind exchanges of parts and of pacts."""

import unittest
from itertools import product
from random import Random

from tests import plainly, plaintested, plainwhole
from tests.helping import told
from tests.manysystems import SHAPES, WIDE_SHAPES, keeps_all, kept_systems, other_edition, pact_rows, random_system, telling_systems
from tests.plainkeeper import PlainKeeper
from tests.test_keeping import RING, SYSTEM
from tests.test_tested import is_reached
from tests.test_wholes import ROUND
from truestandins.amid import amid
from truestandins.catching import found_out
from truestandins.choosing import chosen
from truestandins.counting import asks, bound, most
from truestandins.editions import entries, within
from truestandins.errors import WireError
from truestandins.keeper import Keeper
from truestandins.keeping import keeps
from truestandins.lived import lived
from truestandins.pacts import behind, first_more
from truestandins.pacttexts import read_pact
from truestandins.standins import pact_of
from truestandins.systems import System
from truestandins.tested import tested, untrue
from truestandins.weakest import loose, stand_in, weakest
from truestandins.whys import why_not
from truestandins.wholes import judged, whole

TWO_AND_MORE = tuple(shape for shape in SHAPES if len(shape[0]) > 1) + WIDE_SHAPES
KEPT = kept_systems(60, 0, TWO_AND_MORE) + kept_systems(25, 0, WIDE_SHAPES) + [SYSTEM, RING, ROUND]
DRAWN = [random_system(seed, 0.9, shapes=TWO_AND_MORE) for seed in range(80)]


def outcome(call):
    """What a call returns, None if it raises an error of the package."""
    try:
        return call()
    except WireError:
        return None


def plain_kept(system, name):
    return plainly.kept_or_broken(system, name)[1] is None


def random_run(draw, system, most_events):
    """Events of the whole as they come by chance, up to one that is not let."""
    moment, events = plainwhole.first_moment(system), []
    while moment is not None and len(events) < most_events:
        moves = plainwhole.events_of(system, moment)
        if not moves:
            break
        event, moment = draw.choice(moves)
        events.append(event)
    return events, moment is None


def free_pact(system, wire):
    """The pact that lets all."""
    rows = [f"  {door} any -> any 0, lost 0, busy 0" for door in system.part(system.offerer(wire)).doors]
    return read_pact(system.worths, "\n".join(["state 0"] + rows))


def random_pact(draw, system, wire, loose=0.9):
    rows = pact_rows(draw, system.part(system.offerer(wire)).doors, loose, 2)
    return read_pact(system.worths, "\n".join(row[2:] for row in rows))


def exchanged(system):
    """(what was done, the system behind it): other editions, weakest pacts, stand-ins, chosen pacts, pacts of tests."""
    draw = Random(len(system.text))
    found = []
    for name in system.parts:
        other = outcome(lambda: system.with_part(name, other_edition(draw, system.part(name))))
        found += [("edition", other)] * (other is not None)
    for wire in system.wires:
        for word, pact in (("weakest", (outcome(lambda: weakest(system, wire)) or (None, None))[1:2][0]),
                           ("stand-in", outcome(lambda: stand_in(system, wire)))):
            other = outcome(lambda: system.with_pact(wire, pact))
            found += [(word, other)] * (other is not None)
    wire = draw.choice(system.wires)
    options = tuple((random_pact(draw, system, wire), price) for price in (1, 2)) + ((system.pact(wire), 3),)
    choice = outcome(lambda: chosen(system, ((wire, options),)))
    if choice and choice[0] == "choice":
        found.append(("chosen", system.with_pact(wire, options[choice[2][0]][0])))
    test = plaintested.random_test(draw, system)
    for port, text in plaintested.read_parts(test.text)[1].items():
        doors = tuple(sorted(system.part(system.offerer((test.name, port))).doors))
        found.append(("test", system.with_pact((test.name, port), pact_of(system.worths, doors, text))))
    return found


CHANGED = [(system, word, other) for system in KEPT for word, other in exchanged(system)]


class Ring(unittest.TestCase):
    def test_if_each_part_keeps(self):
        # Guarantee (a), before and behind exchanges.
        kept = 0
        for system in KEPT + DRAWN + [other for _, _, other in CHANGED]:
            words = [word for _, word in judged(system)]
            if "breaks" not in words:
                self.assertEqual(words[-1], "kept")
                self.assertIsNone(plainwhole.kept_or_broken(system)[1])
                kept += 1
        self.assertGreater(kept, 400)

    def test_each_kind_of_exchange_is_there(self):
        words = [word for _, word, _ in CHANGED]
        for word in ("edition", "weakest", "stand-in", "chosen", "test"):
            self.assertGreater(words.count(word), 30, word)


class BothSides(unittest.TestCase):
    def test_what_is_kept(self):
        # Guarantee (b): no run that comes by chance breaks what is kept; what is not kept is shown by a run.
        for at, system in enumerate(KEPT + DRAWN):
            draw, word = Random(at), whole(system)[0]
            broken = [is_broken for _, is_broken in [random_run(draw, system, 40) for _ in range(10)]]
            self.assertFalse(word == "kept" and any(broken))
            for name in system.parts:
                word, proof = keeps(system, name)
                self.assertEqual(word == "keeps", plain_kept(system, name))
                self.assertTrue(word == "keeps" or plainly.is_fault_run(system, name, proof))

    def test_rows_that_are_never_come_to(self):
        for at, system in enumerate(KEPT):
            items = {item: (word, evidence) for item, word, evidence in lived(system)[1]}
            draw = Random(at)
            for _ in range(6):
                moment = plainwhole.first_moment(system)
                for _ in range(40):
                    moves = plainwhole.events_of(system, moment)
                    if not moves:
                        break
                    event, later = draw.choice(moves)
                    self.assertEqual(items[plainwhole.item_of_moment(system, moment, event)][0], "whole")
                    moment = later

    def test_without_the_rows_that_are_spare_all_keep(self):
        cut = 0
        for system in KEPT:
            spare = {item for item, word, _ in lived(system)[1] if word == "spare"}
            other = without(system, spare)
            if other is not None and spare:
                self.assertTrue(keeps_all(other))
                self.assertEqual([len(table) for table in lived(other)[3]], [len(table) for table in lived(system)[3]])
                cut += 1
        self.assertGreater(cut, 20)

    def test_what_hides_and_what_is_found_out(self):
        words = {"caught": 0, "hides": 0}
        for system, word, other in CHANGED:
            if word != "edition":
                continue
            for name in system.parts:
                if system.part(name) != other.part(name):
                    found = found_out(system, name, other.part(name))
                    words[found[0]] += 1
                    if keeps(other, name)[0] == "keeps":
                        self.assertEqual((found[0], set(rank for _, rank in found[1])), ("hides", {-1}))
                    if found[0] == "caught":
                        self.assertEqual(keeps(other, name)[0], "breaks")
        self.assertGreater(min(words.values()), 5)


def without(system, spare):
    """The system whose pacts have no row that is spare; None if a call would be left without an answer."""
    for wire in system.wires:
        states = []
        for number, state in enumerate(system.pact(wire)):
            rows = []
            for door, worth, outcomes in state:
                if (wire, number, door, worth) not in spare or wire[0] == "":
                    left = tuple(pair for pair in outcomes if (wire, number, door, worth, pair[0]) not in spare)
                    if not left and (wire, number, door, worth) not in spare:
                        return None
                    rows += [(door, worth, left)] * bool(left)
            states.append(tuple(rows))
        system = system.with_pact(wire, tuple(states))
    return system


class Weakest(unittest.TestCase):
    def test_it_closes_and_lets_all_that_closes(self):
        # Guarantee (c).
        closed = 0
        for at, system in enumerate(KEPT[:40] + DRAWN):
            draw = Random(at)
            for wire in system.wires:
                found = outcome(lambda: weakest(system, wire))
                if found is None or found[0] == "none":
                    continue
                ends = [name for name in (wire[0], system.offerer(wire)) if name]
                self.assertTrue(all(plain_kept(system.with_pact(wire, found[1]), name) for name in ends))
                if all(plain_kept(system, name) for name in ends):
                    self.assertIsNone(first_more(system.pact(wire), found[1]))
                self.assertIsNone(first_more(stand_in(system, wire), found[1]))
                other = system.with_pact(wire, stand_in(system, wire))
                self.assertTrue(all(plain_kept(other, name) for name in ends))
                for _ in range(4):
                    pact = random_pact(draw, system, wire)
                    if all(plain_kept(system.with_pact(wire, pact), name) for name in ends):
                        self.assertIsNone(first_more(pact, found[1]))
                        closed += 1
        self.assertGreater(closed, 100)

    def test_a_word_that_it_does_not_let_is_told_why(self):
        told_why = 0
        for system in KEPT + DRAWN:
            for wire in system.wires:
                found = outcome(lambda: weakest(system, wire))
                if found is None or found[0] == "none":
                    continue
                word = first_more(free_pact(system, wire), found[1])
                if word is not None:
                    self.assertIsNone(behind(found[1], word))
                    tree = why_not(system, wire, word[:-1], word[-1])
                    self.assertIn(tree[0], ("breaks", "makes", "gives", "all"))
                    told_why += 1
                    # A pact that lets it does not close.
                    ends = [name for name in (wire[0], system.offerer(wire)) if name]
                    other = system.with_pact(wire, free_pact(system, wire))
                    self.assertFalse(all(plain_kept(other, name) for name in ends))
        self.assertGreater(told_why, 15)

    def test_loose_tells_what_is_let_more(self):
        for system in KEPT[:60]:
            found = outcome(lambda: loose(system))
            for wire, word in found or ():
                self.assertEqual(word, first_more(stand_in(system, wire), system.pact(wire)))


class Cheapest(unittest.TestCase):
    def test_no_cheaper_choice_closes(self):
        # Guarantee (d).
        words = {"choice": 0, "none": 0}
        for at, system in enumerate(KEPT[:50]):
            draw = Random(at)
            wires = sorted(draw.sample(system.wires, min(2, len(system.wires))))
            offers = []
            for wire in wires:
                pacts = [random_pact(draw, system, wire, 0.8) for _ in range(2)] + [system.pact(wire)] * (draw.random() < 0.3)
                offers.append((wire, tuple((pact, draw.randint(1, 4)) for pact in pacts)))
            found = chosen(system, tuple(offers))
            words[found[0]] += 1
            prices = []
            for choice in product(*[range(len(options)) for _, options in offers]):
                other = system
                for (wire, options), number in zip(offers, choice):
                    other = other.with_pact(wire, options[number][0])
                if keeps_all(other):
                    prices.append((sum(options[number][1] for (_, options), number in zip(offers, choice)), choice))
            self.assertEqual(found[1:3] if found[0] == "choice" else None, min(prices) if prices else None)
        self.assertGreater(min(words.values()), 5)


class Editions(unittest.TestCase):
    def test_whatever_a_part_keeps_an_edition_within_it_keeps(self):
        # Guarantee (e).
        alike = 0
        for system, word, other in CHANGED:
            for name in system.parts if word == "edition" else ():
                if system.part(name) == other.part(name) or within(system.part(name), other.part(name))[0] == "beyond":
                    continue
                alike += 1
                self.assertTrue(plain_kept(other, name))
                self.assertEqual(found_out(system, name, other.part(name))[0], "hides")
                # Beside any other pact, too.
                for wire in plainly.wires_of(system, name):
                    pact = random_pact(Random(alike), system, wire)
                    if plain_kept(system.with_pact(wire, pact), name):
                        self.assertTrue(plain_kept(other.with_pact(wire, pact), name))
        self.assertGreater(alike, 30)

    def test_exchanges_at_rows_that_entries_tells(self):
        words = {(word, only): 0 for word in ("kept", "broken") for only in (True, False)}
        for at, system in enumerate(KEPT + telling_systems(60)):
            draw = Random(at)
            for name in system.parts:
                newer = other_edition(draw, system.part(name))
                found = outcome(lambda: entries(system, name, newer))
                if found is None:
                    continue
                rows = tuple(row for row, run in found[1] if run == ())
                word = amid(system, name, newer, only=rows)[0]
                self.assertEqual(word, "kept")
                words[word, True] += 1
                words[amid(system, name, newer)[0], False] += 1
        self.assertGreater(min(words["kept", True], words["kept", False], words["broken", False]), 15)

    def test_a_keeper_edits_at_such_rows(self):
        # A part that keeps from each row of states can be put in wherever a keeper is at rest.
        for at, system in enumerate(KEPT[:40]):
            draw, keeper = Random(at), Keeper(system)
            for _ in range(20):
                events = keeper.events()
                if not events:
                    break
                keeper.see(draw.choice(events))
                if keeper.at_rest:
                    name = draw.choice(system.parts)
                    newer = other_edition(draw, system.part(name))
                    found = outcome(lambda: entries(system, name, newer))
                    if found is not None:
                        columns = [system.wires.index(wire) for wire in plainly.wires_of(system, name)]
                        row = tuple(keeper.moments[0][3][column] for column in columns)
                        right = dict(found[1])[row] == ()
                        self.assertIs(keeper.tried(lambda other: other.edit(parts=((name, newer),))), right)


class Tests(unittest.TestCase):
    def test_before_and_behind(self):
        # Guarantee (f), beside pacts that were put in.
        passed = 0
        for at, (system, word, other) in enumerate(CHANGED):
            test = plaintested.random_test(Random(at), other)
            if not other.part(test.name).ports or tested(other, test, "pacts")[0] != "passes":
                continue
            others = [name for name in other.parts if name != test.name]
            asked = [other.offerer((test.name, port)) for port in other.part(test.name).ports]
            if all(plain_kept(other, name) for name in others) and not any(is_reached(other, name, test.name) for name in asked):
                found = tested(other, test, "real")[0]
                self.assertNotEqual(found, "fails")
                if all(most(other, name)[0] == "most" for name in others):
                    self.assertEqual(found, "passes")
                passed += 1
            # Beside the real parts pacts tell nothing.
            if word != "edition":
                self.assertEqual(tested(system, test, "real"), tested(other, test, "real"))
        self.assertGreater(passed, 60)

    def test_beside_pacts_of_tests(self):
        words = set()
        for at, system in enumerate(KEPT + DRAWN):
            test = plaintested.random_test(Random(at), system)
            other = system
            for port, text in plaintested.read_parts(test.text)[1].items():
                doors = tuple(sorted(system.part(system.offerer((test.name, port))).doors))
                other = other.with_pact((test.name, port), pact_of(system.worths, doors, text))
            self.assertIsNone(untrue(other, test))
            one, two = tested(system, test, "standins"), tested(other, test, "pacts")
            if one[0] != "fails" or one[2] != "missing":
                self.assertEqual(one[0], two[0])
            words.add(one[2] if one[0] == "fails" else one[0])
        self.assertTrue({"passes", "surprise", "answer", "missing"} <= words)


class Asks(unittest.TestCase):
    def test_no_call_sets_off_more_than_bound_tells(self):
        # Guarantee (g), before and behind exchanges.
        numbers = set()
        for system in KEPT + [other for _, _, other in CHANGED if keeps_all(other)]:
            found, told_bound = asks(system), dict(bound(system))
            if found[0] == "endless":
                self.assertEqual(set(told_bound.values()), {None})
                continue
            for moment, height in found[3]:
                if len(moment[1]) == 1 and moment[2] == () and not [inner for inner in moment[0] if inner[1]]:
                    number = told_bound[moment[1][0][0]]
                    self.assertTrue(number is None or height <= number)
                    numbers.add((height, number))
        self.assertTrue({(0, 0), (1, 1), (2, 2), (3, 3)} <= numbers)

    def test_of_each_part_no_more_than_most_tells(self):
        # In the whole a call of a part sets off no more asks of its own than beside its pacts.
        for at, system in enumerate(KEPT):
            numbers = {name: most(system, name) for name in system.parts}
            draw = Random(at)
            for _ in range(5):
                events, _ = random_run(draw, system, 60)
                open_calls, counts = [], []
                for wire, kind, *_ in events:
                    if kind == "answer":
                        open_calls.pop()
                        counts.pop()
                        continue
                    if wire[0] and counts:
                        counts[-1] += 1
                    open_calls.append(wire)
                    counts.append(0)
                    for open_wire, count in zip(open_calls, counts):
                        found = numbers[system.offerer(open_wire)]
                        self.assertTrue(found[0] == "endless" or count <= found[1])


class BeforeAndBehind(unittest.TestCase):
    def test_other_pacts_change_no_part(self):
        # As long as all keep, the whole does just the same beside weaker pacts of wires that are not outer.
        same = 0
        for system, word, other in CHANGED:
            wires = [wire for wire in system.wires if system.pact(wire) != other.pact(wire)]
            if word in ("weakest", "stand-in") and wires and wires[0][0] != "" and keeps_all(other):
                before = set((moment[:3], tuple(state for wire, state in zip(system.wires, moment[3]) if wire not in wires))
                             for moment in whole(system)[1])
                now = set((moment[:3], tuple(state for wire, state in zip(system.wires, moment[3]) if wire not in wires))
                          for moment in whole(other)[1])
                self.assertEqual(before, now)
                self.assertEqual(asks(system)[:2] if asks(system)[0] == "most" else "endless",
                                 asks(other)[:2] if asks(other)[0] == "most" else "endless")
                same += 1
        self.assertGreater(same, 60)

    def test_back_again(self):
        for system, _, other in CHANGED:
            for name in system.parts:
                if system.part(name) != other.part(name):
                    other = other.with_part(name, system.part(name))
            for wire in system.wires:
                other = other.with_pact(wire, system.pact(wire))
            self.assertEqual(other, system)
            self.assertEqual(judged(other), judged(system))

    def test_an_edit_of_a_fresh_keeper_tells_what_judged_tells(self):
        words = {True: 0, False: 0}
        for system, _, other in CHANGED:
            parts = tuple((name, other.part(name)) for name in sorted(system.parts) if system.part(name) != other.part(name))
            pacts = tuple((wire, other.pact(wire)) for wire in system.wires if system.pact(wire) != other.pact(wire))
            if parts or pacts:
                keeper = Keeper(system)
                found = keeper.edit(parts=parts, pacts=pacts)
                self.assertIs(found, keeps_all(other))
                self.assertEqual((keeper.system, keeper.moments), (other, Keeper(other).moments))
                words[found] += 1
        self.assertGreater(min(words.values()), 30)

    def test_an_edit_that_keeps_is_followed_by_what_is_let(self):
        # Behind an edit that tells True no event comes that is not let.
        followed = 0
        for at, (system, _, other) in enumerate(CHANGED[::2]):
            draw, keeper = Random(at), Keeper(system)
            for _ in range(12):
                events = keeper.events()
                if not events or keeper.at_rest and draw.random() < 0.2:
                    break
                keeper.see(draw.choice(events))
            while not keeper.at_rest:
                keeper.undo()
            parts = tuple((name, other.part(name)) for name in sorted(system.parts) if system.part(name) != other.part(name))
            pacts = tuple((wire, other.pact(wire)) for wire in system.wires if system.pact(wire) != other.pact(wire))
            if not parts and not pacts or keeper.edit(parts=parts, pacts=pacts) is not True:
                continue
            plain = PlainKeeper(system, [("see", event) for event in keeper.story] + [("edit", parts, pacts)])
            self.assertTrue(plain.all_keep())
            for _ in range(20):
                events = keeper.events()
                if not events:
                    break
                if keeper.at_rest:
                    self.assertEqual([keeper.foretold(event[0], *event[2:])[1] for event in events], [False] * len(events))
                self.assertIs(keeper.see(draw.choice(events)), True)
            followed += 1
        self.assertGreater(followed, 60)

    def test_equal_calls_return_equal_results(self):
        for system in KEPT[:10] + DRAWN[:10]:
            again = System(system.text)
            self.assertEqual(judged(again), judged(system))
            for name in system.parts:
                self.assertEqual(told(lambda: most(again, name)), told(lambda: most(system, name)))
                self.assertEqual(found_out(again, name, system.part(name)), found_out(system, name, again.part(name)))
            self.assertEqual(told(lambda: bound(again)), told(lambda: bound(system)))
            self.assertEqual(told(lambda: asks(again)), told(lambda: asks(system)))
            self.assertEqual(Keeper(again), Keeper(system))


if __name__ == "__main__":
    unittest.main()
