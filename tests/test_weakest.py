import unittest
from itertools import product

from tests import plainly
from tests.helping import ODD_VALUES, exactly, told
from tests.manysystems import kept_systems, random_system
from tests.plainweakest import Beside, Plain, calls_over, letters, node_behind, own_events
from tests.test_keeping import RING, SYSTEM, TIGHT, with_truths
from tests.test_wholes import FILL, GET, PAY, ROUND
from truestandins.pacts import behind, first_more, least_pact
from truestandins.pacttexts import read_pact, show_pact
from truestandins.systems import System
from truestandins.weakest import loose, shows_weakest, stand_in, weakest

STRICT = SYSTEM.with_pact(PAY, read_pact(2, "state 0\n  pay 0 -> 0 0, lost 0\n  pay 1 -> 1 0, lost 0"))


def round_trip(many, counts=False, worths=2):
    """a passes calls on to b, whose pact is a ring of states: x 1 in the first one, x 0 in the others."""
    cells = "  cell n 0\n" if counts else ""
    adds = "    add n 1\n" if counts else ""
    rows = [f"worths {worths}\npart a\n{cells}  port p\n  door x\n{adds}    ask p x it\n    answer got\npart b\n  door x\n"
            "    answer it\nwire a p b"]
    for at in range(many):
        rows.append(f"  state {at}\n    x {int(at == 0)} -> any {(at + 1) % many}")
    return System("\n".join(rows) + "\nouter a\n  state 0\n    x 0 -> 0 0")


def counted(ahead):
    """a passes calls on and counts them up to 4, b's pact is a ring of 199 states behind some others.

    So there are ahead + 4 * 199 places and one where nobody is, each with 4 calls: 5 nodes.
    """
    rows = ["worths 4\npart a\n  cell n 0\n  port p\n  door x\n    add n 1\n    ask p x it\n    answer got\npart b\n"
            "  door x\n    answer it\nwire a p b"]
    for at in range(ahead + 199):
        rows.append(f"  state {at}\n    x {int(at == ahead)} -> any {at + 1 if at < ahead + 198 else ahead}")
    return System("\n".join(rows) + "\nouter a\n  state 0\n    x 0 -> 0 0")


def some_systems():
    return [SYSTEM, TIGHT, STRICT, RING, ROUND] + [random_system(seed, 0.8) for seed in range(60)]


def some_wires(many=None):
    cases = [(system, wire) for system in some_systems() for wire in system.wires]
    return cases if many is None else cases[:many]


def words_up_to(system, wire, size):
    signs = [call + (answer,) for call in calls_over(system, wire) for answer in range(-2, system.worths)]
    return [word for many in range(size + 1) for word in product(signs, repeat=many)]


class Examples(unittest.TestCase):
    def test_as_they_stand(self):
        self.assertEqual([show_pact(stand_in(STRICT, GET)), len(weakest(STRICT, GET)[1])], [
            "state 0\n  get 0 -> 0 0, lost 0, busy 0\n  get 1 -> 1 0, lost 0", 2])
        self.assertEqual(loose(SYSTEM), ((GET, (("get", 0, -2),)),))

    def test_the_second_state_of_the_weakest_one(self):
        pact = weakest(STRICT, GET)[1]
        self.assertEqual(pact[0][0], ("fill", 0, tuple((answer, 1) for answer in (-2, -1, 0, 1))))
        every = tuple((answer, 1) for answer in (-2, -1, 0, 1))
        self.assertEqual(pact[1], tuple((door, worth, every) for door in ("fill", "get") for worth in (0, 1)))


class Tables(unittest.TestCase):
    def test_of_an_outer_wire(self):
        shop = SYSTEM.part("shop")
        self.assertEqual(shop.doors, ("get", "fill"))
        word, pact, table = weakest(SYSTEM, FILL)
        self.assertEqual(word, "pact")
        self.assertEqual(set(row[0] for row in table), {()})
        self.assertEqual(set(row[3] for row in table), {-1})
        self.assertEqual(len(pact), 1)
        self.assertEqual(stand_in(SYSTEM, FILL), pact)

    def test_of_many_wires(self):
        words, rings = {"pact": 0, "none": 0}, 0
        for system, wire in some_wires():
            plain = Plain(system, wire)
            found = weakest(system, wire)
            words[found[0]] += 1
            self.assertEqual(found[-1], plain.table())
            self.assertEqual(found[0], "pact" if plain.ranks[plain.first] is None else "none")
            self.assertEqual(len(found), 3 if found[0] == "pact" else 2)
            self.assertIs(shows_weakest(system, wire, found), True)
            if found[0] == "pact":
                self.assertEqual(found[1], least_pact(found[1]))
                for word in words_up_to(system, wire, 2):
                    self.assertEqual(behind(found[1], word) is not None, plain.lets(word))
            rings += wire[0] != "" and any(other[0] == system.offerer(wire) for other in system.wires)
        self.assertGreater(min(words.values()), 15)
        self.assertGreater(rings, 15)

    def test_ranks_of_all_kinds(self):
        ranks = set()
        for system, wire in some_wires():
            ranks.update(row[3] for row in weakest(system, wire)[-1])
        self.assertTrue(ranks.issuperset({-1, 0, 1, 2, 3}), ranks)

    def test_first_node_broken(self):
        word, table = weakest(TIGHT, FILL)
        self.assertEqual((word, len(table), table[0][0], table[0][2:]), ("none", 1, (), ((), 0)))
        self.assertIsNone(stand_in(TIGHT, FILL))

    def test_the_own_pact_does_not_matter(self):
        for system, wire in some_wires(60):
            for pact in ((((),)), read_pact(system.worths, "state 0\nstate 1")):
                other = system.with_pact(wire, pact)
                self.assertEqual(weakest(other, wire), weakest(system, wire))
                self.assertEqual(stand_in(other, wire), stand_in(system, wire))

    def test_equal_calls(self):
        self.assertEqual(weakest(system=RING, wire=("a", "q")), weakest(RING, ("a", "q")))
        self.assertEqual(stand_in(system=RING, wire=("a", "q")), stand_in(RING, ("a", "q")))
        self.assertEqual(loose(system=RING), loose(RING))
        found = weakest(RING, ("a", "q"))
        self.assertIs(shows_weakest(system=RING, wire=("a", "q"), value=found), True)


class NothingLeft(unittest.TestCase):
    def test_no_call_is_let_but_none_is_made_either(self):
        # The second call would be asked where nothing is let: so a word of one call ends the pact, and is right.
        system = System(
            "worths 2\npart a\n  port p\n  door x\n    ask p x 0\n    answer got\npart b\n  door x\n    answer it\n"
            "wire a p b\n  state 0\n    x 0 -> any 1\n  state 1\nouter a\n  state 0\n    x 0 -> 0 0")
        word, pact, table = weakest(system, ("", "a"))
        self.assertEqual(show_pact(pact), (
            "state 0\n  x 0 -> 0 2, 1 2, lost 1, busy 1\n  x 1 -> 0 2, 1 2, lost 1, busy 1\nstate 1\n"
            "  x 0 -> 0 1, 1 1, lost 1, busy 1\n  x 1 -> 0 1, 1 1, lost 1, busy 1\nstate 2"))
        self.assertEqual((word, table), ("pact", Plain(system, ("", "a")).table()))


class StandIns(unittest.TestCase):
    def test_words_that_the_user_can_have(self):
        fewer = 0
        for system, wire in some_wires():
            plain = Plain(system, wire)
            found, greatest = stand_in(system, wire), weakest(system, wire)
            if found is None:
                self.assertEqual(greatest[0], "none")
                continue
            self.assertEqual(found, least_pact(found))
            for word in words_up_to(system, wire, 2):
                self.assertEqual(behind(found, word) is not None, plain.lets(word, by_user=wire[0] != ""))
            fewer += found != greatest[1]
            if wire[0] == "":
                self.assertEqual(found, greatest[1])
        self.assertGreater(fewer, 20)


class WeakestOfAll(unittest.TestCase):
    """Guarantee (c)."""

    def ends_keep(self, system, wire, pact):
        names = [name for name in (wire[0], system.offerer(wire)) if name]
        return all(plainly.kept_or_broken(Beside(system, wire, pact), name)[1] is None for name in names)

    def test_both_ends_keep(self):
        many = 0
        for system, wire in some_wires():
            found = weakest(system, wire)
            if found[0] == "pact":
                self.assertTrue(self.ends_keep(system, wire, found[1]))
                self.assertTrue(self.ends_keep(system, wire, stand_in(system, wire)))
                many += 1
        self.assertGreater(many, 50)

    def test_with_any_call_or_answer_more_one_breaks(self):
        more = 0
        for system, wire in some_wires(120):
            found = weakest(system, wire)
            if found[0] == "none":
                continue
            for other in enlarged(system, wire, found[1]):
                self.assertFalse(self.ends_keep(system, wire, other))
                more += 1
        self.assertGreater(more, 100)

    def test_where_there_is_none_each_pact_breaks(self):
        many = 0
        for system, wire in some_wires():
            if weakest(system, wire)[0] == "none":
                for pact in some_pacts(system, wire):
                    self.assertFalse(self.ends_keep(system, wire, pact))
                    many += 1
        self.assertGreater(many, 20)

    def test_no_pact_that_closes_lets_more(self):
        closing = 0
        for system, wire in some_wires():
            found = weakest(system, wire)
            for pact in some_pacts(system, wire):
                if self.ends_keep(system, wire, pact):
                    closing += 1
                    self.assertEqual(found[0], "pact")
                    self.assertIsNone(first_more(pact, found[1]))
        self.assertGreater(closing, 50)


def enlarged(system, wire, pact):
    """The pact with one call or answer more, anywhere; behind it all is let, or what is let at first."""
    every = tuple(range(-2, system.worths))
    universal = tuple((door, worth, tuple((answer, len(pact)) for answer in every))
                      for door, worth in calls_over(system, wire))
    for number, state in enumerate(pact):
        rows = {row[:2]: dict(row[2]) for row in state}
        for call in calls_over(system, wire):
            for answer in every:
                if answer not in rows.get(call, {}):
                    for later in (len(pact), 0):
                        new = {known: dict(outcomes) for known, outcomes in rows.items()}
                        new.setdefault(call, {})[answer] = later
                        changed = tuple(known + (tuple(sorted(new[known].items())),) for known in sorted(new))
                        yield pact[:number] + (changed,) + pact[number + 1:] + (universal,)


def some_pacts(system, wire):
    """The pact of the wire, what lets nothing, what lets all, and what lets one call with some answers."""
    every = tuple((answer, 0) for answer in range(-2, system.worths))
    yield system.pact(wire)
    yield ((),)
    yield (tuple(call + (every,) for call in calls_over(system, wire)),)
    for call in calls_over(system, wire):
        for outcomes in (every, every[1:], every[2:], every[2:3]):
            yield ((call + (outcomes,),),)


class Errors(unittest.TestCase):
    def test_no_wire(self):
        for call in (lambda value: weakest(SYSTEM, value), lambda value: stand_in(SYSTEM, value),
                     lambda value: shows_weakest(SYSTEM, value, ())):
            for value in ODD_VALUES + (("shop", "till"), ("till", "till"), ("", "zz"), ["till", "shop"]):
                self.assertEqual(exactly(told(lambda: call(value))), exactly(("NoWire", value)))

    def test_no_wire_is_ahead_of_too_many(self):
        for call in (weakest, stand_in):
            self.assertEqual(told(lambda: call(round_trip(400, True, 3), ("a", "q"))), ("NoWire", ("a", "q")))

    def test_400_states_and_one_more(self):
        for many, enough in ((399, True), (400, False)):
            system, wire = round_trip(many), ("", "a")
            found = told(lambda: weakest(system, wire))
            self.assertEqual(told(lambda: stand_in(system, wire)), found[1] if enough else ("TooMany", 400))
            if enough:
                self.assertEqual(len(found[1]), 400)
                self.assertIs(shows_weakest(system, wire, found), True)
            else:
                self.assertEqual(found, ("TooMany", 400))

    def test_4000_nodes_and_more(self):
        wire = ("", "a")
        word, pact, table = weakest(counted(3), wire)
        self.assertEqual((word, len(pact), len(table)), ("pact", 200, 4000))
        self.assertEqual(stand_in(counted(3), wire), pact)
        self.assertIs(shows_weakest(counted(3), wire, (word, pact, table)), True)
        for call in (weakest, stand_in):
            self.assertEqual(told(lambda: call(counted(4), wire)), ("TooMany", 4000))
        self.assertIs(shows_weakest(counted(4), wire, (word, pact, table)), False)

    def test_4000_goes_ahead_of_400(self):
        system = round_trip(400, True, 3)
        self.assertEqual(told(lambda: weakest(system, ("", "a"))), ("TooMany", 4000))
        self.assertEqual(told(lambda: stand_in(system, ("", "a"))), ("TooMany", 4000))
        self.assertIs(shows_weakest(system, ("", "a"), ("none", ())), False)
        self.assertIs(shows_weakest(round_trip(400), ("", "a"), ("pact", ((),), ())), False)

    def test_a_stand_in_has_fewer_states(self):
        # What the user never has needs no state: so this weakest pact has too many, its stand_in has not.
        rows = ["worths 2\npart u\n  port w\n  door go\n    ask w x 1\n    answer got\npart a\n  port p\n  door x\n"
                "    ask p x it\n    answer got\npart b\n  door x\n    answer it\nwire u w a\n  state 0\n    x any -> any 0\n"
                "wire a p b"]
        for at in range(400):
            rows.append(f"  state {at}\n    x 0 -> any {(at + 1) % 400}" + "\n    x 1 -> any 0" * (at == 0))
        system = System("\n".join(rows) + "\nouter u\n  state 0\n    go 0 -> any 0")
        self.assertEqual(told(lambda: weakest(system, ("u", "w"))), ("TooMany", 400))
        self.assertEqual(show_pact(stand_in(system, ("u", "w"))), "state 0\n  x 1 -> 0 0, 1 0, lost 0, busy 0")

    def test_not_kept(self):
        self.assertEqual(told(lambda: loose(TIGHT)), ("NotKept", "shop"))
        self.assertEqual(told(lambda: loose(STRICT)), ("NotKept", "till"))


class Loose(unittest.TestCase):
    def test_each_wire_that_is_not_outer(self):
        met = {True: 0, False: 0}
        for system in [SYSTEM, RING, ROUND] + kept_systems(60, 300):
            found = loose(system)
            self.assertEqual([wire for wire, _ in found], [wire for wire in system.wires if wire[0]])
            for wire, word in found:
                pact = stand_in(system, wire)
                self.assertEqual(word, first_more(pact, system.pact(wire)))
                self.assertIsNone(first_more(system.pact(wire), weakest(system, wire)[1]))
                met[word is None] += 1
        self.assertGreater(met[False], 15)

    def test_none_where_the_pact_is_the_stand_in(self):
        for system in (SYSTEM, RING, ROUND):
            for wire in [wire for wire in system.wires if wire[0]]:
                other = system.with_pact(wire, stand_in(system, wire))
                self.assertIsNone(dict(loose(other))[wire])


class Shows(unittest.TestCase):
    @classmethod
    def setUpClass(cls):
        # Nodes of some ranks, wires with a weakest pact and others without.
        found = [(system, wire, weakest(system, wire)) for system, wire in some_wires()]
        found = [case for case in found if len(case[2][-1]) < 36]
        ranks = [len(set(row[3] for row in case[2][-1])) for case in found]
        for word, many in (("pact", 2), ("none", 3)):
            some = [case for case, number in zip(found, ranks) if case[2][0] == word and number >= many]
            assert len(some) > 4, (word, len(some))
            cls.cases = cls.cases + tuple(some[:6])
        cls.cases += ((SYSTEM, GET, weakest(SYSTEM, GET)), (TIGHT, FILL, weakest(TIGHT, FILL)))

    cases = ()

    def no(self, system, wire, value):
        self.assertIs(shows_weakest(system, wire, value), False)

    def test_values_of_any_kind(self):
        for system, wire, found in self.cases:
            for value in ODD_VALUES:
                self.no(system, wire, value)
                for at in range(len(found)):
                    if exactly(value) != exactly(found[at]):
                        self.no(system, wire, found[:at] + (value,) + found[at + 1:])
                self.no(system, wire, found[:-1] + ((value,),))
                for at in (0, len(found[-1]) - 1):
                    row = found[-1][at]
                    for place in range(4):
                        other = row[:place] + (value,) + row[place + 1:]
                        if exactly(other) != exactly(row) and (place < 3 or type(value) is not int or value < -1):
                            self.no(system, wire, found[:-1] + (found[-1][:at] + (other,) + found[-1][at + 1:],))
            other = "none" if found[0] == "pact" else "pact"
            for value in (list(found), found + ((),), found[:-1], (other,) + found[1:], found[:-1] + (list(found[-1]),),
                          ("pact", ((),) * 2, found[-1]), ("none", found[-1]) if found[0] == "pact" else ()):
                self.no(system, wire, value)

    def test_rows_twice_and_out_of_sequence(self):
        for system, wire, found in self.cases:
            table = found[-1]
            for at in range(len(table)):
                self.no(system, wire, found[:-1] + (table[:at] + (table[at],) + table[at:],))
                again = tuple(sorted(table + (table[at][:3] + (table[at][3] + 1,),)))
                self.no(system, wire, found[:-1] + (again,))
            if len(table) > 1:
                self.no(system, wire, found[:-1] + (table[::-1],))

    def test_truths(self):
        swapped = 0
        for system, wire, found in self.cases[-4:]:
            for other in with_truths(found):
                self.no(system, wire, other)
                swapped += 1
        self.assertGreater(swapped, 100)

    def test_other_ranks_and_rows_left_out(self):
        right_ones = {True: 0, False: 0}
        for system, wire, found in self.cases:
            plain, table = Plain(system, wire), found[-1]
            for at in range(len(table)):
                for rank in (None, -1, 0, 1, 2, 3, 7, 50, -2):
                    row = () if rank is None else (table[at][:3] + (rank,),)
                    other = table[:at] + row + table[at + 1:]
                    right = is_right(plain, other)
                    right_ones[right] += 1
                    self.assertIs(shows_weakest(system, wire, found[:-1] + (other,)), right)
        self.assertGreater(right_ones[True], 100)
        self.assertGreater(right_ones[False], 300)

    def test_all_ranks_greater(self):
        for system, wire, found in self.cases:
            for change in (lambda rank: 3 * rank, lambda rank: rank + 5 * (rank > 1), lambda rank: rank + (rank > 0) * 900):
                table = tuple(sorted(row[:3] + (change(row[3]) if row[3] > 0 else row[3],) for row in found[-1]))
                self.assertIs(shows_weakest(system, wire, found[:-1] + (table,)), True)
            table = tuple(row[:3] + (row[3] + 1 if row[3] >= 0 else -1,) for row in found[-1])
            self.assertIs(shows_weakest(system, wire, found[:-1] + (table,)), all(row[3] < 0 for row in found[-1]))

    def test_least_tables_of_none(self):
        # Behind bad nodes no more need stand there than what shows that they are.
        shorter = 0
        for system, wire, found in self.cases:
            if found[0] == "none":
                plain = Plain(system, wire)
                table = found[1]
                for row in found[1]:
                    other = tuple(kept for kept in table if kept != row)
                    if is_right(plain, other):
                        table = other
                shorter += len(table) < len(found[1])
                self.assertIs(shows_weakest(system, wire, ("none", table)), True)
        self.assertGreater(shorter, 3)

    def test_nodes_that_are_none(self):
        for system, wire, found in self.cases:
            for at, row in enumerate(found[-1]):
                for place in (0, 1):
                    for scenes in (row[place][1:], row[place][:-1], row[place] + row[place][:1], row[place][::-1], row[1 - place]):
                        other = row[:place] + (scenes,) + row[place + 1:]
                        if other[:3] not in [kept[:3] for kept in found[-1]]:
                            table = tuple(sorted(found[-1][:at] + (other,) + found[-1][at + 1:]))
                            self.no(system, wire, found[:-1] + (table,))

    def test_nodes_behind_those_that_are_broken(self):
        # weakest does not tell them, but they are nodes.
        added = 0
        for system, wire, found in self.cases:
            known = [row[:3] for row in found[-1]]
            for row in [row for row in found[-1] if row[3] == 0][:4]:
                for letter in letters(system, wire, row[:3]):
                    node = node_behind(system, wire, row[:3], letter)
                    broken = None in [later for _, later in own_events(system, wire, node)]
                    if node not in known:
                        table = tuple(sorted(found[-1] + (node + (0,),)))
                        self.assertIs(shows_weakest(system, wire, found[:-1] + (table,)), broken)
                        added += broken
        self.assertGreater(added, 5)

    def test_a_broken_node_that_others_show_too(self):
        # a may answer wrongly at once, or behind an ask: so the first node has rank 0, or more than what shows it.
        system = System(
            "worths 2\npart a\n  cell n 0\n  port p\n  door go\n    draw n\n    if n = 1\n      ask p x 0\n    answer 0\n"
            "part b\n  door x\n    answer it\nwire a p b\n  state 0\n    x any -> any 0\nouter a\n  state 0\n    go 0 -> 1 0")
        wire = ("a", "p")
        word, table = weakest(system, wire)
        self.assertEqual((word, len(table), table[0][3]), ("none", 1, 0))
        first = table[0][:3]
        call = node_behind(system, wire, first, ("x", 0))
        answer = node_behind(system, wire, call, 0)
        for ranks, right in (((0, 1, 0), True), ((2, 1, 0), True), ((900, 5, 0), True), ((1, 1, 0), False), ((2, 2, 0), False),
                             ((0, 0, 0), False), ((2, 1, 1), False), ((0, None, 0), True), ((2, None, 0), False),
                             ((-1, 1, 0), False), ((2, -1, 0), False)):
            rows = [node + (rank,) for node, rank in zip((first, call, answer), ranks) if rank is not None]
            self.assertIs(shows_weakest(system, wire, ("none", tuple(sorted(rows)))), right, ranks)

    def test_another_pact(self):
        for system, wire, found in self.cases:
            if found[0] == "pact":
                pacts = [pact for pact in list(enlarged(system, wire, found[1]))[:5] + [((),), found[1] + found[1][:1]]]
                pacts += [tuple(state[1:] for state in found[1]), found[1] + ((),)]
                for pact in pacts:
                    if pact != found[1]:
                        self.no(system, wire, ("pact", pact, found[2]))
                self.no(system, wire, ("pact", list(found[1]), found[2]))

    def test_more_than_400_states(self):
        system, wire = round_trip(400), ("", "a")
        table = Plain(system, wire).table()
        self.assertEqual(table[0][3], -1)
        for pact in ((), ((),), system.pact(wire), system.pact(("a", "p"))):
            self.no(system, wire, ("pact", pact, table))
        self.no(system, wire, ("none", table))

    def test_more_members(self):
        for system, wire, found in self.cases:
            for at in range(len(found) + 1):
                self.no(system, wire, found[:at] + ((),) + found[at:])
            if found[0] == "none":
                for pact in some_pacts(system, wire):
                    self.no(system, wire, ("pact", pact, found[1]))

    def test_of_another_wire(self):
        self.no(SYSTEM, PAY, weakest(SYSTEM, FILL))
        self.no(SYSTEM, FILL, weakest(SYSTEM, PAY))

    def test_the_first_node_is_needed(self):
        found = weakest(SYSTEM, PAY)
        first = Plain(SYSTEM, PAY).first
        self.no(SYSTEM, PAY, found[:2] + (tuple(row for row in found[2] if row[:3] != first),))
        self.no(SYSTEM, PAY, found[:2] + ((),))
        self.no(SYSTEM, PAY, ("none", ()))


def is_right(plain, table):
    """Whether a table of nodes is right by itself, the first one being told as before."""
    ranks = {row[:3]: row[3] for row in table}
    if table != tuple(sorted(table)) or plain.first not in ranks or min(ranks.values()) < -1:
        return False
    if (ranks[plain.first] == -1) != (plain.ranks[plain.first] is None):
        return False
    for node, rank in ranks.items():
        laters = {letter: ranks.get(later) for letter, later in plain.nexts[node].items()}
        events = [known for known, _ in plain.own[node]]
        forced = [later for letter, later in laters.items()
                  if ((plain.wire, "answer", letter) if node[2] else (plain.wire, "call") + letter) in events]
        if rank == 0:
            right = plain.broken(node)
        elif rank == -1:
            right = not plain.broken(node) and None not in laters.values() and max([-1] + forced) == -1
            right = right and (not node[2] or -1 in laters.values())
        else:
            lesser = [told_rank for told_rank in forced if told_rank is not None and -1 < told_rank < rank]
            every = [later is not None and -1 < later < rank for later in laters.values()]
            right = bool(lesser) or bool(node[2]) and bool(every) and all(every)
        if not right:
            return False
    return True


if __name__ == "__main__":
    unittest.main()
