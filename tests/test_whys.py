import unittest
from functools import lru_cache

from tests import plainly
from tests.helping import ODD_VALUES, exactly, told
from tests.manysystems import random_system
from tests.plainweakest import Plain, calls_over, event, free
from tests.test_keeping import RING, SYSTEM, TIGHT, with_truths
from tests.test_weakest import STRICT, round_trip
from tests.test_wholes import FILL, GET, PAY, ROUND
from truestandins.pacttexts import read_pact
from truestandins.systems import System
from truestandins.weakest import weakest
from truestandins.whys import shows_why_not, why_not

# b never answers x, as it asks c again and again; and a can bear none of the answers to x 1.
BOUND = System(
    "worths 2\npart a\n  port p\n  door go\n    ask p x it\n    if busy\n      answer 1\n    if lost\n      fail\n"
    "    answer it\npart b\n  port q\n  door x\n    ask q y 0\n    while got = 0\n      ask q y 0\npart c\n  door y\n"
    "    answer 0\nwire a p b\n  state 0\n    x any -> any 0\nwire b q c\n  state 0\n    y 0 -> 0 0\nouter a\n  state 0\n"
    "    go 0 -> 0 0\n    go 1 -> busy 0")
WAY = ("a", "p")


@lru_cache(None)
def plain_of(seed):
    return Plain(*some_cases()[seed])


@lru_cache(None)
def some_cases():
    systems = [SYSTEM, TIGHT, STRICT, RING, ROUND, BOUND] + [random_system(seed, 0.8) for seed in range(100, 130)]
    return [(system, wire) for system in systems for wire in system.wires]


def mores(system, wire):
    calls = calls_over(system, wire)
    return [()] + calls + [call + (answer,) for call in calls for answer in range(-2, system.worths)]


def words_let(plain, size):
    """Words of a weakest pact, of the sizes up to this one."""
    found, level = [()], [()]
    for _ in range(size):
        level = [word + (call + (answer,),) for word in level for call in calls_over(plain.system, plain.wire)
                 for answer in range(-2, plain.system.worths) if plain.lets(word + (call + (answer,),))]
        found += level[:6]
        level = level[:6]
    return found


def spelled(word, more=()):
    """Calls and answers by turns."""
    letters = [letter for door, worth, answer in word for letter in ((door, worth), answer)]
    return tuple(letters) + ((more[:2],) + more[2:] if more else ())


def due(plain, word, more):
    """The letters of which a tree has to tell why they are not let, None if all are."""
    letters = spelled(word, more)
    for many in range(len(letters) + 1):
        node = plain.node(letters[:many])
        if plain.ranks[node] is not None:
            return letters[:many]
    return None


def is_run(system, wire, name, run, letters, last):
    """Whether it is a run of a part, over the wire just by the letters; last says what its last event has to be."""
    open_system = free(system, wire)
    scenes = [plainly.first_scene(system, name)]
    for at, known in enumerate(run):
        moves = [(scene, later) for scene in scenes for other, later in plainly.events_at(open_system, name, scene)
                 if other == known]
        ends = at == len(run) - 1
        if not moves or (None in [later for _, later in moves]) != (ends and last == "breaks"):
            return False
        if ends and not moves[0][0][3]:
            return False
        scenes = [later for _, later in moves]
    over = [known for known in run[:-1] if known[0] == wire]
    if over != [event(wire, letter) for letter in letters] or not run:
        return False
    return (run[-1][0] == wire) == (last == "goes")


def is_tree(system, wire, letters, tree):
    if tree[0] == "breaks":
        return tree[1] in (wire[0], system.offerer(wire)) and tree[1] != "" and len(tree) == 3 and is_run(
            system, wire, tree[1], tree[2], letters, "breaks")
    under_way = len(letters) % 2 == 1
    if tree[0] == "all":
        trees = dict(zip(range(-2, system.worths), tree[1]))
        return under_way and len(tree) == 2 and len(tree[1]) == system.worths + 2 and all(
            is_tree(system, wire, letters + (answer,), below) for answer, below in trees.items())
    name = system.offerer(wire) if under_way else wire[0]
    if tree[0] != ("gives" if under_way else "makes") or len(tree) != 3 or name == "":
        return False
    if not is_run(system, wire, name, tree[1], letters, "goes"):
        return False
    last = tree[1][-1][2] if under_way else tree[1][-1][2:]
    return is_tree(system, wire, letters + (last,), tree[2])


def kinds(tree):
    """The words of a tree and of all below it."""
    below = tree[1] if tree[0] == "all" else tree[2:] if tree[0] in ("makes", "gives") else ()
    return [tree[0]] + [word for other in below for word in kinds(other)]


@lru_cache(None)
def all_trees():
    """(system, wire, word, more, tree) of many kinds."""
    found = []
    for number, (system, wire) in enumerate(some_cases()):
        plain = plain_of(number)
        for word in words_let(plain, 1 if len(found) < 300 else 0)[:4]:
            for more in mores(system, wire):
                if more or not word:
                    tree = why_not(system, wire, word, more)
                    if tree is not None:
                        found.append((system, wire, word, more, tree))
    return found


class Example(unittest.TestCase):
    def test_as_it_stands(self):
        self.assertEqual(why_not(STRICT, GET, (), ("get", 0, 1)), ("breaks", "till", (
            (PAY, "call", "pay", 0), (GET, "call", "get", 0), (GET, "answer", 1), (PAY, "answer", 1))))


class Trees(unittest.TestCase):
    def test_of_many_words(self):
        met, none = {}, 0
        for number, (system, wire) in enumerate(some_cases()):
            plain = plain_of(number)
            for word in words_let(plain, 2)[:5]:
                for more in mores(system, wire):
                    if more == () and word != ():
                        continue
                    letters, tree = due(plain, word, more), why_not(system, wire, word, more)
                    if letters is None:
                        self.assertIsNone(tree)
                        none += 1
                    else:
                        self.assertTrue(is_tree(system, wire, letters, tree), (system.text, wire, word, more, tree))
                        for kind in kinds(tree):
                            met[kind] = met.get(kind, 0) + 1
        self.assertEqual(set(met), {"breaks", "makes", "gives", "all"})
        self.assertGreater(min(met.values()), 3)
        self.assertGreater(none, 1000)

    def test_of_a_call_that_no_answer_can_follow(self):
        run = lambda answer, last: ((("", "a"), "call", "go", 1), (WAY, "call", "x", 1), (WAY, "answer", answer),
                                    (("", "a"), "answer", last))
        tree = why_not(BOUND, WAY, (), ("x", 1))[2]
        self.assertEqual(tree, ("all", tuple(
            ("breaks", "a", run(answer, last)) for answer, last in ((-2, 1), (-1, -1), (0, 1), (1, 1)))))
        # As a makes that call, there is no weakest pact at all.
        self.assertEqual(why_not(BOUND, WAY, (), ()), (
            "makes", ((("", "a"), "call", "go", 1), (WAY, "call", "x", 1)), tree))
        for more in mores(BOUND, WAY):
            self.assertEqual(why_not(BOUND, WAY, (), more), why_not(BOUND, WAY, (), ()))
        for at in range(4):
            trees = tree[1][:at] + (tree[1][at - 1],) + tree[1][at + 1:]
            self.assertIs(shows_why_not(BOUND, WAY, (), (), ("makes", run(0, 0)[:2], ("all", trees))), False)
        self.assertIs(shows_why_not(BOUND, WAY, (), (), ("makes", run(0, 0)[:2], tree)), True)

    def test_of_an_answer_whose_call_is_not_let(self):
        cases = 0
        for system, wire, word, more, tree in all_trees():
            plain = plain_of(some_cases().index((system, wire)))
            if len(more) == 3 and plain.ranks[plain.first] is None and due(plain, word, more[:2]) is not None:
                self.assertIs(shows_why_not(system, wire, word, more, why_not(system, wire, word, more[:2])), True)
                self.assertIs(shows_why_not(system, wire, word, more[:2], tree), True)
                cases += 1
        self.assertGreater(cases, 50)

    def test_of_the_offerer(self):
        self.assertEqual(why_not(TIGHT, FILL, (), ()), ("breaks", "shop", (
            (GET, "call", "get", 0), (GET, "answer", 0), (GET, "call", "get", 0), (GET, "answer", -1))))

    def test_whether_there_is_a_weakest_pact(self):
        for system, wire in some_cases():
            self.assertEqual(why_not(system, wire, (), ()) is None, weakest(system, wire)[0] == "pact")

    def test_by_name(self):
        self.assertEqual(why_not(system=STRICT, wire=GET, word=(), more=("get", 0, 1)),
                         why_not(STRICT, GET, (), ("get", 0, 1)))
        self.assertIs(shows_why_not(system=STRICT, wire=GET, word=(), more=("get", 0), value=None), True)

    def test_trees_that_are_deep(self):
        # From state to state the till must be served once more, until its last wish cannot be.
        for many in (10, 150):
            system = chain_of(many)
            tree = why_not(system, WAY, (), ())
            self.assertIs(shows_why_not(system, WAY, (), (), tree), True)
            depth, below = 0, tree
            while below[0] != "breaks":
                depth, below = depth + 1, below[1][0] if below[0] == "all" else below[2]
            self.assertGreater(depth, many)
            wrong = rebuilt(tree, ("breaks", "b", ()))
            self.assertIs(shows_why_not(system, WAY, (), (), wrong), False)


def chain_of(many):
    """a asks x 0 again and again, b always answers 0; what b asks behind so many of them is not let."""
    rows = ["worths 2\npart a\n  port p\n  door go\n    ask p x 0\n    answer got\npart b\n  port p\n  door x\n    ask p y 0\n"
            "    answer 0\npart c\n  door y\n    answer 0\nwire a p b\n  state 0\n    x 0 -> 0 0\nwire b p c"]
    for state in range(many):
        rows.append(f"  state {state}" + f"\n    y 0 -> 0 {state + 1}" * (state + 1 < many))
    return System("\n".join(rows) + "\nouter a\n  state 0\n    go any -> any 0, lost 0, busy 0")


def rebuilt(tree, leaf):
    """The tree of makes and gives with another one at its end."""
    heads = []
    while tree[0] in ("makes", "gives"):
        heads.append(tree[:2])
        tree = tree[2]
    for head in heads[::-1]:
        leaf = head + (leaf,)
    return leaf


class TwoCalls(unittest.TestCase):
    """a makes two calls: x 0 is right, x 1 leads b to an ask that is not let, though it may answer, too."""

    system = System(
        "worths 2\npart a\n  port p\n  door go\n    ask p x it\n    answer it\npart b\n  cell n 0\n  port q\n  door x\n"
        "    draw n\n    if it = n\n      ask q y it\n    answer it\npart c\n  door y\n    answer it\nwire a p b\n  state 0\n"
        "    x any -> any 0\nwire b q c\n  state 0\n    y 0 -> any 0\nouter a\n  state 0\n    go 0 -> any 1\n    go 1 -> 0 0\n"
        "  state 1")
    go = ((("", "a"), "call", "go", 1), (WAY, "call", "x", 1))
    ask = ((WAY, "call", "x", 1), (("b", "q"), "call", "y", 1))

    def shows(self, tree):
        return shows_why_not(self.system, WAY, (), (), tree)

    def test_the_call_that_is_bad_is_told(self):
        tree = ("makes", self.go, ("breaks", "b", self.ask))
        plain = Plain(self.system, WAY)
        behind = plain.nexts[plain.first]
        self.assertEqual([plain.ranks[node] for node in (plain.first, behind["x", 0], behind["x", 1])], [1, None, 0])
        self.assertEqual(why_not(self.system, WAY, (), ()), tree)
        self.assertIs(self.shows(tree), True)

    def test_a_tree_that_goes_on_where_b_may_break(self):
        given = ((WAY, "call", "x", 1), (WAY, "answer", 1))
        back = self.go + ((WAY, "answer", 1), (("", "a"), "answer", 1))
        self.assertIs(self.shows(("makes", self.go, ("gives", given, ("breaks", "a", back)))), True)
        for run in (self.ask + given[1:], self.ask[:1] * 2 + given[1:], self.ask, self.ask + self.ask[1:] + given[1:]):
            self.assertIs(self.shows(("makes", self.go, ("gives", run, ("breaks", "a", back)))), False)
        for run in (back[:-1], self.go, back[:1], back + back[-1:]):
            self.assertIs(self.shows(("makes", self.go, ("gives", given, ("breaks", "a", run)))), False)

    def test_a_call_or_an_answer_over_the_wire_breaks_nothing(self):
        given = ((WAY, "call", "x", 1), (WAY, "answer", 1))
        self.assertIs(self.shows(("breaks", "a", self.go)), False)
        for name, run in (("b", given), ("a", self.go), ("b", self.ask[:1]), ("c", ()), ("b", self.ask[1:])):
            self.assertIs(self.shows(("makes", self.go, ("breaks", name, run))), False)


class Errors(unittest.TestCase):
    calls = (why_not, lambda system, wire, word, more: shows_why_not(system, wire, word, more, None))

    def check(self, system, wire, word, more, error):
        for call in self.calls:
            self.assertEqual(exactly(told(lambda: call(system, wire, word, more))), exactly(error))

    def test_no_wire(self):
        for value in ODD_VALUES + (("shop", "till"), ("", "zz"), ["till", "shop"]):
            self.check(SYSTEM, value, None, None, ("NoWire", value))

    def test_bad_word(self):
        for value in [value for value in ODD_VALUES if value != () or not isinstance(value, tuple)]:
            self.check(SYSTEM, GET, value, None, ("BadWord", value))
        for word in ((("get", 0),), (("get", 0, True),), (("get", False, 0),), (("get", 0, 4),), (("any", 0, 0),),
                     [("get", 0, 0)], (["get", 0, 0],), (("get", 0, -3),), ("get", 0, 0)):
            self.check(SYSTEM, GET, word, ("get", 0), ("BadWord", word))

    def test_a_word_that_is_not_let(self):
        cases = 0
        for system, wire in some_cases()[:60]:
            plain = Plain(system, wire)
            for more in mores(system, wire):
                if len(more) == 3 and not plain.lets((more,)):
                    self.check(system, wire, (more,), (), ("BadWord", (more,)))
                    cases += 1
        self.assertGreater(cases, 50)
        for word in ((("pay", 0, 0),), (("get", 2, 0),), (("get", 0, 2),), (("get", 0, 3),)):
            self.check(SYSTEM, GET, word, ("get", 0), ("BadWord", word))
        # Where there is no weakest pact, no word but the empty one is taken.
        self.check(TIGHT, FILL, (("fill", 0, 0),), ("fill", 0), ("BadWord", (("fill", 0, 0),)))

    def test_bad_more(self):
        mores_wrong = [("get",), ("get", 2), ("get", 0, 2), ("get", 0, -3), ("get", 0, 0, 0), ("pay", 0), ("any", 0), ["get", 0],
                       ("get", True), ("get", 0, False), ("get", None), (0, "get"), (("get", 0),), ("get", "0"), ("get", 0, "0")]
        for more in mores_wrong + [value for value in ODD_VALUES if exactly(value) != "()"]:
            self.check(SYSTEM, GET, (), more, ("BadMore", more))
            self.check(SYSTEM, GET, (("get", 0, 0),), more, ("BadMore", more))
            self.check(TIGHT, FILL, (), more, ("BadMore", more))
        self.check(SYSTEM, GET, (("get", 0, 0),), (), ("BadMore", ()))

    def test_words_go_ahead_of_mores(self):
        self.check(SYSTEM, GET, 3, 4, ("BadWord", 3))
        self.check(STRICT, GET, (("get", 0, 1),), 4, ("BadWord", (("get", 0, 1),)))

    def test_too_many(self):
        system, wire = round_trip(400, True, 3), ("", "a")
        self.assertEqual(told(lambda: why_not(system, wire, (), ("x", 0))), ("TooMany", 4000))
        self.assertEqual(told(lambda: why_not(system, wire, 0, ("x", 0))), ("BadWord", 0))
        self.assertEqual(told(lambda: why_not(system, wire, (), 0)), ("BadMore", 0))
        self.assertIs(shows_why_not(system, wire, (), ("x", 1), None), True)
        self.assertIs(shows_why_not(system, wire, (), ("x", 0), None), False)
        tree = ("breaks", "a", ((wire, "call", "x", 0), (("a", "p"), "call", "x", 0)))
        self.assertIs(shows_why_not(system, wire, (), ("x", 0), tree), True)
        # The weakest pact has 401 states; it is not told here.
        self.assertEqual(why_not(round_trip(400), wire, (), ("x", 0)), tree)


class Shows(unittest.TestCase):
    @classmethod
    def setUpClass(cls):
        cases = all_trees()
        cases = [case for case in cases if len(weakest(case[0], case[1])[-1]) < 20]
        cls.cases = cases[::len(cases) // 25] + [case for case in cases if len(set(kinds(case[4]))) > 2][:4]
        assert len(cls.cases) > 25, len(cls.cases)

    def no(self, case, value):
        self.assertIs(shows_why_not(*case[:4], value), False)

    def test_what_why_not_tells(self):
        for case in all_trees():
            self.assertIs(shows_why_not(*case), True)
            self.no(case, None)

    def test_where_all_is_let(self):
        tree = why_not(STRICT, GET, (), ("get", 0, 1))
        for more in ((), ("get", 0), ("get", 0, 0), ("fill", 1, 1)):
            self.assertIs(shows_why_not(STRICT, GET, (), more, None), True)
            for value in [value for value in ODD_VALUES if value is not None] + [tree]:
                self.assertIs(shows_why_not(STRICT, GET, (), more, value), False)

    def test_values_of_any_kind_at_any_depth(self):
        for case in self.cases:
            for value in ODD_VALUES:
                self.no(case, value)
                self.no(case, (value, *case[4][1:]))
            for value in ODD_VALUES[::3]:
                for other in replaced(case[4], value):
                    self.no(case, other)

    def test_nearly_right_ones(self):
        wrong = 0
        for case in self.cases:
            system, wire, word, more, tree = case
            letters = due(Plain(system, wire), word, more)
            for other in varied(tree):
                right = plainly_right(system, wire, letters, other)
                self.assertIs(shows_why_not(system, wire, word, more, other), right)
                wrong += not right
        self.assertGreater(wrong, 500)

    def test_truths(self):
        swapped = 0
        for case in self.cases:
            for other in with_truths(case[4]):
                self.no(case, other)
                swapped += 1
        self.assertGreater(swapped, 100)

    def test_longer_runs(self):
        fill = ((FILL, "call", "fill", 0), (FILL, "answer", 0))
        word, name, run = why_not(TIGHT, FILL, (), ())
        good = run[:2]
        # Over its wire just the word: so what is filled in there does not fit.
        self.assertIs(shows_why_not(TIGHT, FILL, (), (), (word, name, fill + run)), False)
        tree = why_not(STRICT, GET, (), ("get", 0, 1))
        self.assertIs(shows_why_not(STRICT, GET, (), ("get", 0, 1), tree), True)
        self.assertIs(shows_why_not(STRICT, GET, (), ("get", 0, 1), ("breaks", "till", tree[2][:-1])), False)
        self.assertIs(shows_why_not(TIGHT, FILL, (), (), (word, name, good + run)), False)
        shop = "breaks", "shop", ((PAY, "call", "pay", 0),) + tree[2][1:]
        self.assertIs(shows_why_not(STRICT, GET, (), ("get", 0, 1), shop), False)
        # A longer one of the till: over an outer wire that asks nothing of the shop.
        more_doors = System(STRICT.text.replace("  door pay", "  door look\n    answer 0\n  door pay").replace(
            "    pay 0 -> 0 0, lost 0", "    look 0 -> 0 0\n    pay 0 -> 0 0, lost 0"))
        look = ((PAY, "call", "look", 0), (PAY, "answer", 0))
        for many in (0, 1, 400):
            value = ("breaks", "till", look * many + tree[2])
            self.assertIs(shows_why_not(more_doors, GET, (), ("get", 0, 1), value), True)

    def test_trees_of_other_words(self):
        for system, wire, word, more, tree in self.cases:
            plain = Plain(system, wire)
            for other in mores(system, wire):
                letters = due(plain, (), other)
                right = letters is not None and plainly_right(system, wire, letters, tree)
                self.assertIs(shows_why_not(system, wire, (), other, tree), right)


def plainly_right(system, wire, letters, value):
    if "[" in exactly(value):
        return False
    try:
        return is_tree(system, wire, letters, value)
    except (TypeError, IndexError, KeyError, ValueError):
        return False


def replaced(tree, value):
    """The tree with a value in the place of each one below it, and of each of its runs."""
    if tree[0] == "all":
        for at, below in enumerate(tree[1]):
            yield ("all", tree[1][:at] + (value,) + tree[1][at + 1:])
            for other in replaced(below, value):
                yield ("all", tree[1][:at] + (other,) + tree[1][at + 1:])
        yield ("all", value)
    elif tree[0] == "breaks":
        yield ("breaks", tree[1], value)
        yield ("breaks", value, tree[2])
        for at in range(len(tree[2])):
            yield tree[:2] + (tree[2][:at] + (value,) + tree[2][at + 1:],)
    else:
        yield (tree[0], value, tree[2])
        yield (tree[0], tree[1], value)
        for at in range(len(tree[1])):
            yield (tree[0], tree[1][:at] + (value,) + tree[1][at + 1:], tree[2])
        for other in replaced(tree[2], value):
            yield tree[:2] + (other,)


def varied(tree):
    """Trees that differ in one place: runs cut and doubled, other words, trees left out and changed about."""
    for word in ("breaks", "makes", "gives", "all"):
        yield (word,) + tree[1:]
    yield tree + ((),)
    yield tree[:-1]
    yield list(tree)
    if tree[0] == "all":
        yield ("all", tree[1][1:])
        yield ("all", tree[1] + tree[1][-1:])
        yield ("all", tree[1][::-1])
        yield tree[1][0]
        for at, below in enumerate(tree[1]):
            for other in varied(below):
                yield ("all", tree[1][:at] + (other,) + tree[1][at + 1:])
        return
    place = 2 if tree[0] == "breaks" else 1
    run = tree[place]
    for at in range(len(run)):
        for other in (run[:at], run[:at] + run[at + 1:], run[:at + 1] + run[at:], run[at:],
                      run[:at] + (list(run[at]),) + run[at + 1:]):
            yield tree[:place] + (other,) + tree[place + 1:]
    if tree[0] == "breaks":
        for name in ("a", "b", "c", "till", "shop", ""):
            yield ("breaks", name, run)
        return
    yield tree[2]
    for other in varied(tree[2]):
        yield tree[:2] + (other,)


if __name__ == "__main__":
    unittest.main()
