import unittest
from random import Random

from tests.helping import ODD_VALUES, exactly, told
from tests.manysystems import kept_systems, other_edition, pact_rows, random_system
from tests.plainkeeper import PlainKeeper, journal_of
from tests.test_keeping import BACK, COME, GET, GO, PAY, RING, SYSTEM, TIGHT, with_truths
from tests.test_tested import ONCE, STUBBORN_TILL
from tests.test_wholes import FILL, LOOP
from truestandins.errors import WireError
from truestandins.journals import read_journal
from truestandins.keeper import Keeper
from truestandins.keeping import keeps
from truestandins.pacts import is_pact
from truestandins.pacttexts import read_pact
from truestandins.parts import Part
from truestandins.systems import System
from truestandins.wholes import whole

TILL, SHOP = SYSTEM.part("till"), SYSTEM.part("shop")
PAID = ((PAY, "call", "pay", 1), (GET, "call", "get", 1), (GET, "answer", 1), (PAY, "answer", 1))
NOTHING_LEFT = ((PAY, "call", "pay", 0), (GET, "call", "get", 0), (GET, "answer", -1))
# Draws a cell at each call, and tells it on demand.
DICE = System("worths 2\npart a\n  cell n 0\n  door set\n    draw n\n    answer 0\n  door told\n    answer n\nouter a\n  state 0\n"
              "    set 0 -> 0 0\n    told 0 -> any 0")
SET, TOLD = (("", "a"), "call", "set", 0), (("", "a"), "call", "told", 0)
NEW_SHOP = Part(2, "cell has 0\ndoor get\n  if has = 0\n    fail\n  set has 0\n  answer it\ndoor fill\n  set has 1")


def keeper_of(system, *events):
    keeper = Keeper(system)
    for event in events:
        keeper.see(event)
    return keeper


def answered(wire, answer):
    return wire, "answer", answer


def standing(keeper):
    """All that a keeper tells by itself."""
    return (keeper.system, keeper.moments, keeper.story, keeper.at_rest, keeper.journal, keeper.events(),
            [keeper.word(wire) for wire in keeper.system.wires])


class Examples(unittest.TestCase):
    def test_as_they_stand(self):
        keeper = Keeper(SYSTEM)
        self.assertEqual([keeper.foretold(("", "till"), "pay", 1), keeper.see((("", "till"), "call", "pay", 1)), keeper.events()],
                         [((1,), False, False), True, ((("till", "shop"), "call", "get", 1),)])
        self.assertEqual([keeper.see(event) for event in ((("till", "shop"), "call", "get", 1), (("till", "shop"), "answer", 1),
                                                          (("", "till"), "answer", 1))], [True, True, True])
        self.assertEqual([keeper.foretold(("", "till"), "pay", 1), keeper.word(("till", "shop")),
                          keeper.edit(pacts=((("till", "shop"), ONCE),))], [((-1,), False, False), (("get", 1, 1),), False])


class Seeing(unittest.TestCase):
    def test_a_fresh_one(self):
        keeper = Keeper(system=SYSTEM)
        self.assertIs(keeper.system, SYSTEM)
        first = ((((), ()), ((1,), ())), (), (), (0, 0, 0))
        self.assertEqual((keeper.moments, keeper.story, keeper.at_rest), ((first,), (), True))
        self.assertEqual(keeper.events(), tuple((FILL if door == "fill" else PAY, "call", door, worth)
                                                for door, worth in (("fill", 0), ("pay", 0), ("pay", 1))))

    def test_one_event_behind_the_other(self):
        keeper = Keeper(SYSTEM)
        waits, full, empty = ((), (2, 1)), ((1,), ()), ((0,), ())
        pay, get = (PAY, "pay", 1), (GET, "get", 1)
        moments = [((((), ()), full), (pay,), (), (0, 0, 0)), ((waits, full), (pay, get), (), (0, 0, 0)),
                   ((waits, empty), (pay,), (GET, 1), (0, 0, 0)), ((((), ()), empty), (), (), (0, 0, 0))]
        for at, event in enumerate(PAID):
            self.assertIn(event, keeper.events())
            self.assertIs(keeper.see(event), True)
            self.assertEqual((keeper.moments, keeper.story, keeper.at_rest), ((moments[at],), PAID[:at + 1], at == 3))

    def test_what_is_seen_keeps_the_moments_that_fit(self):
        keeper = keeper_of(DICE, SET, answered(("", "a"), 0))
        zero, one = [(((((n,), ()),), (), (), (0,))) for n in (0, 1)]
        self.assertEqual(keeper.moments, (zero, one))
        keeper.see(TOLD)
        self.assertEqual(keeper.events(), (answered(("", "a"), 0), answered(("", "a"), 1)))
        keeper.see(answered(("", "a"), 1))
        self.assertEqual(keeper.moments, (one,))
        self.assertEqual(keeper.foretold(("", "a"), "told", 0), ((1,), False, False))

    def test_moments_ascend_where_their_order_is_turned_round(self):
        text = DICE.text.replace("outer a", "  door turn\n    add n 1\nouter a") + "\n    turn 0 -> 0 0"
        keeper = keeper_of(System(text), SET, answered(SET[0], 0))
        rests = keeper.moments
        self.assertEqual([moment[0] for moment in rests], [(((0,), ()),), (((1,), ()),)])
        keeper.see((SET[0], "call", "turn", 0))
        keeper.see(answered(SET[0], 0))
        self.assertEqual(keeper.moments, rests)

    def test_events_that_are_not_let_can_come_too(self):
        keeper = keeper_of(TIGHT, *PAID, *NOTHING_LEFT[:2])
        self.assertEqual(keeper.events(), (answered(GET, -1),))
        self.assertIs(keeper.see(answered(GET, -1)), False)
        self.assertEqual((keeper.moments, keeper.at_rest, keeper.events()), ((), False, ()))
        self.assertEqual(keeper.story, PAID + NOTHING_LEFT)
        self.assertIs(keeper.system, TIGHT)

    def test_ended(self):
        for value in ODD_VALUES + (PAID[0], answered(GET, -1)):
            keeper = keeper_of(TIGHT, *PAID, *NOTHING_LEFT)
            self.assertEqual(exactly(told(lambda: keeper.see(value))), exactly(("Ended", value)))
            self.assertEqual(told(lambda: keeper.foretold(value, value, value)), ("Ended", None))
            self.assertEqual(told(lambda: keeper.edit(parts=value, pacts=value)), ("Ended", None))
            self.assertEqual(standing(keeper), standing(keeper_of(TIGHT, *PAID, *NOTHING_LEFT)))
        self.assertEqual(told(lambda: keeper.edit()), ("Ended", None))
        keeper.undo()
        self.assertEqual((keeper.at_rest, keeper.events()), (False, (answered(GET, -1),)))

    def test_no_event_with_the_very_value(self):
        for events in ((), PAID[:1], PAID[:2], PAID):
            keeper = keeper_of(SYSTEM, *events)
            known = keeper.events()
            before = standing(keeper)
            wrong = list(ODD_VALUES) + [list(event) for event in known] + [event + (0,) for event in known] + [event[:-1] for event in known]
            wrong += [other for event in known for other in with_truths(event)] + [[known], known]
            wrong += [event for event in PAID + NOTHING_LEFT if event not in known] + [{"event": known}]
            for value in wrong:
                name, found = told(lambda: keeper.see(value))
                self.assertEqual(name, "NoEvent")
                self.assertIs(found, value)
                self.assertEqual(standing(keeper), before)

    def test_story_tells_all_events(self):
        keeper = keeper_of(SYSTEM, *PAID)
        keeper.edit(parts=(("shop", NEW_SHOP),))
        keeper.see(PAID[0])
        self.assertEqual(keeper.story, PAID + PAID[:1])

    def test_arguments_by_name(self):
        keeper = Keeper(SYSTEM)
        self.assertIs(keeper.see(event=PAID[0]), True)
        self.assertEqual(keeper.word(wire=GET), ())
        keeper.undo()
        self.assertEqual(keeper.foretold(worth=1, door="pay", wire=PAY), ((1,), False, False))
        self.assertEqual(keeper.tried(look=lambda other: other is keeper, keep=False), True)

    def test_methods_that_return_nothing(self):
        keeper = keeper_of(SYSTEM, PAID[0])
        self.assertEqual((keeper.undo(), keeper.redo()), (None, None))
        with keeper.trial() as trial:
            self.assertIsNone(trial.keep())


# Each call draws three cells of four worths; there are two such parts.
DRAWERS = "worths 4\n" + "".join(
    f"part {name}\n  cell k 0\n  cell l 0\n  cell m 0\n  door x\n    draw k\n    draw l\n    draw m\n    answer 0\n"
    "  door y\n    if k = l\n      answer 1\n    answer 0\n" for name in "ab"
) + "".join(f"outer {name}\n  state 0\n    x 0 -> 0 0\n    y 0 -> any 0\n" for name in "ab")
DRAWERS = System(DRAWERS[:-1])


class TooManyMoments(unittest.TestCase):
    def test_they_change_nothing(self):
        x, y = [[((("", name), "call", door, 0)) for name in "ab"] for door in "xy"]
        a = keeper_of(DRAWERS, x[0], answered(("", "a"), 0))
        self.assertEqual(len(a.moments), 64)
        a.see(x[1])
        before = standing(a)
        self.assertEqual(told(lambda: a.see(answered(("", "b"), 0))), ("TooMany", 4000))
        self.assertEqual(standing(a), before)
        self.assertEqual(told(lambda: a.redo()), ("NothingToRedo", None))
        # What was taken back before can still be done again.
        a.undo()
        a.see(x[1])
        a.undo()
        a.redo()
        self.assertEqual(standing(a), before)
        # Where fewer are left there are not too many.
        other = keeper_of(DRAWERS, x[0], answered(("", "a"), 0), y[0], answered(("", "a"), 1), x[1], answered(("", "b"), 0))
        self.assertEqual(len(other.moments), 16 * 64)

    def test_redo_is_left_where_see_raises(self):
        x = [((("", name), "call", "x", 0)) for name in "ab"]
        keeper = keeper_of(DRAWERS, x[0], answered(("", "a"), 0), x[1])
        self.assertEqual(told(lambda: keeper.see(None)), ("NoEvent", None))
        keeper.undo()
        self.assertEqual(told(lambda: keeper.see(None)), ("NoEvent", None))
        self.assertEqual(told(lambda: keeper.edit()), ("BadEdit", ((), ())))
        keeper.redo()
        self.assertEqual(keeper.story[-1], x[1])

    def test_4000(self):
        # 20 * 20 * 10 moments, and 20 * 20 * 13.
        ten = "draw k,draw l,if k = 0,  set l 0,if k = 1,  set l 0"
        for third, many in ((ten, 4000), (ten[:-len(",if k = 1,  set l 0")], 5200)):
            parts = {"a": ten + ",draw m,if m != 0,  set m 1", "b": ten + ",draw m,if m != 0,  set m 1", "c": third}
            rows = ["worths 4"]
            for name, told_rows in parts.items():
                rows += [f"part {name}", "  cell k 0", "  cell l 0", "  cell m 0", "  door x"]
                rows += ["    " + row for row in told_rows.split(",")]
            for name in "ab":
                rows += [f"outer {name}", "  state 0", "    x 0 -> 0 0"]
            # The third one is called by the second, which hands on whatever it has.
            text = "\n".join(rows).replace("part b\n  cell k 0\n  cell l 0\n  cell m 0\n", "part b\n  cell k 0\n  cell l 0\n  cell m 0\n  port p\n")
            text = text.replace("    draw m\n    if m != 0\n      set m 1\npart c", "    draw m\n    if m != 0\n      set m 1\n    ask p x 0\npart c")
            system = System(text.replace("outer a", "wire b p c\n  state 0\n    x 0 -> 0 0\nouter a"))
            a, b, c = ("", "a"), ("", "b"), ("b", "p")
            keeper = keeper_of(system, (a, "call", "x", 0), answered(a, 0), (b, "call", "x", 0), (c, "call", "x", 0))
            self.assertEqual(len(keeper.moments), 400)
            found = told(lambda: keeper.see(answered(c, 0)))
            self.assertEqual((found, len(keeper.moments)), (True, 4000) if many == 4000 else (("TooMany", 4000), 400))


class Words(unittest.TestCase):
    def test_of_each_wire(self):
        keeper = keeper_of(SYSTEM, *PAID, *NOTHING_LEFT)
        self.assertEqual([keeper.word(wire) for wire in SYSTEM.wires], [(), (("pay", 1, 1),), (("get", 1, 1), ("get", 0, -1))])
        # A call that is open is in no word.
        self.assertEqual(keeper_of(SYSTEM, *PAID, *NOTHING_LEFT[:2]).word(GET), (("get", 1, 1),))

    def test_without_an_event_that_was_not_let(self):
        keeper = keeper_of(TIGHT, *PAID, *NOTHING_LEFT)
        self.assertEqual((keeper.word(GET), keeper.word(PAY)), ((("get", 1, 1),), (("pay", 1, 1),)))
        # Also where it was an ask.
        closed = SYSTEM.with_pact(GET, ((),))
        asked = keeper_of(closed, *PAID[:2])
        self.assertEqual((asked.moments, asked.word(GET)), ((), ()))

    def test_calls_amid(self):
        keeper = keeper_of(RING, (GO, "call", "go", 0), (COME, "call", "come", 0), (BACK, "call", "go", 0), answered(BACK, -2))
        self.assertEqual([keeper.word(wire) for wire in (GO, COME, BACK)], [(), (), (("go", 0, -2),)])

    def test_since_the_pact_was_last_edited(self):
        keeper = keeper_of(SYSTEM, *PAID)
        keeper.edit(parts=(("shop", SHOP),))
        self.assertEqual(keeper.word(GET), (("get", 1, 1),))
        keeper.edit(pacts=((GET, ONCE),))
        self.assertEqual((keeper.word(GET), keeper.word(PAY)), ((), (("pay", 1, 1),)))
        for event in PAID:
            keeper.see(event)
        self.assertEqual((keeper.word(GET), keeper.word(PAY)), ((("get", 1, 1),), (("pay", 1, 1),) * 2))
        # The same pact once more begins anew all the same.
        keeper.edit(parts=(("shop", SHOP),), pacts=((PAY, SYSTEM.pact(PAY)), (GET, ONCE)))
        self.assertEqual((keeper.word(GET), keeper.word(PAY)), ((), ()))
        keeper.undo()
        self.assertEqual((keeper.word(GET), keeper.word(PAY)), ((("get", 1, 1),), (("pay", 1, 1),) * 2))

    def test_no_wire(self):
        for keeper in (Keeper(SYSTEM), keeper_of(SYSTEM, *PAID[:2]), keeper_of(TIGHT, *PAID, *NOTHING_LEFT)):
            for value in ODD_VALUES + (["till", "shop"], ("till", "bank"), ("", "bank"), ("shop", "till"), "till", (("", "till"),)):
                self.assertEqual(exactly(told(lambda: keeper.word(value))), exactly(("NoWire", value)))


class Foretold(unittest.TestCase):
    def test_all_answers(self):
        self.assertEqual(Keeper(DICE).foretold(("", "a"), "told", 0), ((0,), False, False))
        keeper = keeper_of(DICE, SET, answered(("", "a"), 0))
        self.assertEqual(keeper.foretold(("", "a"), "told", 0), ((0, 1), False, False))

    def test_it_can_break(self):
        keeper = keeper_of(TIGHT, *PAID)
        # Ahead of its answer the shop says lost.
        self.assertEqual(keeper.foretold(PAY, "pay", 0), ((), True, False))
        # In its place: the till says lost where the pact does not let it.
        strict = SYSTEM.with_pact(PAY, read_pact(2, "state 0\n  pay any -> any 0"))
        self.assertEqual(keeper_of(strict, *PAID).foretold(PAY, "pay", 0), ((), True, False))
        dice = SYSTEM.with_part("shop", Part(2, "cell n 0\ndoor get\n  draw n\n  if n = 0\n    fail\n  answer it\ndoor fill\n  answer 0"))
        self.assertEqual(Keeper(dice).foretold(PAY, "pay", 1), ((-1, 1), False, False))
        self.assertEqual(Keeper(dice.with_pact(PAY, strict.pact(PAY))).foretold(PAY, "pay", 1), ((1,), True, False))

    def test_it_can_last(self):
        self.assertEqual(Keeper(LOOP).foretold(("", "a"), "x", 0), PlainKeeper(LOOP).foretold(("", "a"), "x", 0))
        self.assertIs(Keeper(LOOP).foretold(("", "a"), "x", 0)[2], True)
        keeper = Keeper(STUBBORN_TILL)
        self.assertEqual(keeper.foretold(PAY, "pay", 0), ((0,), False, False))
        for event in PAID:
            keeper.see(event)
        self.assertEqual(keeper.foretold(PAY, "pay", 0), ((), False, True))

    def test_answers_that_are_told_below_worths(self):
        self.assertEqual(keeper_of(SYSTEM, *PAID).foretold(PAY, "pay", 0), ((-1,), False, False))

    def test_nothing_is_seen_by_it(self):
        keeper = keeper_of(SYSTEM, *PAID)
        before = standing(keeper)
        keeper.foretold(PAY, "pay", 0)
        self.assertEqual(standing(keeper), before)

    def test_errors_in_their_sequence(self):
        at_rest, amid, ended = Keeper(SYSTEM), keeper_of(SYSTEM, *PAID[:2]), keeper_of(TIGHT, *PAID, *NOTHING_LEFT)
        for value in ODD_VALUES:
            self.assertEqual(told(lambda: ended.foretold(value, value, value)), ("Ended", None))
            self.assertEqual(told(lambda: amid.foretold(value, value, value)), ("Amid", None))
            self.assertEqual(exactly(told(lambda: at_rest.foretold(value, value, value))), exactly(("NoWire", value)))
            self.assertEqual(exactly(told(lambda: at_rest.foretold(PAY, value, 0))), exactly(("BadCall", (value, 0))))
            self.assertEqual(exactly(told(lambda: at_rest.foretold(PAY, "pay", value))), exactly(("BadCall", ("pay", value))))
        for wire in (GET, ("", "bank"), ["", "till"], ("till", "till"), "till"):
            self.assertEqual(told(lambda: at_rest.foretold(wire, "get", 0)), ("NoWire", wire))
        for wire, call in ((PAY, ("get", 0)), (PAY, ("pay", 2)), (FILL, ("fill", 1)), (FILL, ("get", 0)), (PAY, ("any", 0))):
            self.assertEqual(told(lambda: at_rest.foretold(wire, *call)), ("BadCall", call))

    def test_a_call_that_the_pact_lets_now(self):
        system = SYSTEM.with_pact(PAY, read_pact(2, "state 0\n  pay 1 -> any 1\nstate 1\n  pay 0 -> any 1, lost 1"))
        keeper = Keeper(system)
        self.assertEqual(told(lambda: keeper.foretold(PAY, "pay", 0)), ("BadCall", ("pay", 0)))
        for event in PAID:
            keeper.see(event)
        self.assertEqual(told(lambda: keeper.foretold(PAY, "pay", 1)), ("BadCall", ("pay", 1)))
        self.assertEqual(keeper.foretold(PAY, "pay", 0), ((-1,), False, False))


class Edits(unittest.TestCase):
    def test_a_part(self):
        keeper = keeper_of(SYSTEM, *PAID)
        self.assertIs(keeper.edit(parts=(("shop", SHOP),)), True)
        # It begins anew: it has a thing again.
        self.assertEqual(keeper.moments, (((((), ()), ((1,), ())), (), (), (0, 0, 0)),))
        self.assertEqual(keeper.system, SYSTEM)
        self.assertIs(keeper.edit(parts=(("shop", NEW_SHOP),)), True)
        self.assertEqual(keeper.moments, (((((), ()), ((0,), ())), (), (), (0, 0, 0)),))
        self.assertEqual(keeper.system, SYSTEM.with_part("shop", NEW_SHOP))

    def test_a_pact(self):
        system = SYSTEM.with_pact(GET, read_pact(2, "state 0\n  get any -> any 1, lost 1\nstate 1\n  get any -> any 0, lost 0")).with_pact(
            PAY, read_pact(2, "state 0\n  pay any -> any 1, lost 1\nstate 1\n  pay any -> any 0, lost 0"))
        keeper = keeper_of(system, *PAID)
        self.assertEqual(keeper.moments[0][3], (0, 1, 1))
        self.assertIs(keeper.edit(pacts=((GET, system.pact(GET)),)), True)
        # Its state begins anew, the cells and the other states stay.
        self.assertEqual(keeper.moments, (((((), ()), ((0,), ())), (), (), (0, 1, 0)),))
        self.assertEqual(keeper.system, system)
        self.assertIs(keeper.edit(pacts=((GET, ONCE),)), False)
        self.assertEqual(keeper.system, system.with_pact(GET, ONCE))

    def test_moments_that_become_alike(self):
        keeper = keeper_of(DICE, SET, answered(("", "a"), 0))
        self.assertEqual(len(keeper.moments), 2)
        self.assertIs(keeper.edit(parts=(("a", DICE.part("a")),)), True)
        self.assertEqual(len(keeper.moments), 1)

    def test_what_goes_together_only_all_at_once(self):
        keeper = Keeper(SYSTEM)
        till = Part(2, TILL.text.replace("ask shop get it", "ask shop buy it"))
        shop = Part(2, SHOP.text.replace("door get", "door buy"))
        pact = read_pact(2, "state 0\n  buy any -> any 0, lost 0")
        one = ("shop", shop), ("till", till)
        before = standing(keeper)
        for parts, pacts in ((one[:1], ()), (one[1:], ()), (one, ()), ((), ((GET, pact),)), (one[:1], ((GET, pact),)), (one[1:], ((GET, pact),))):
            self.assertEqual(told(lambda: keeper.edit(parts=parts, pacts=pacts)), ("BadEdit", (parts, pacts)))
            self.assertEqual(standing(keeper), before)
        self.assertIs(keeper.edit(parts=one, pacts=((GET, pact),)), True)
        self.assertEqual((keeper.system.part("till"), keeper.system.part("shop"), keeper.system.pact(GET)), (till, shop, pact))
        self.assertIs(keeper.see((PAY, "call", "pay", 1)), True)
        self.assertEqual(keeper.events(), ((GET, "call", "buy", 1),))
        # The journal has them all at once, too.
        self.assertEqual(read_journal(keeper.journal), keeper)

    def test_no_edit_by_its_form(self):
        keeper = Keeper(SYSTEM)
        before = standing(keeper)
        shop, pact = ("shop", SHOP), (GET, ONCE)
        wrong = [((), ()), ([shop], ()), ((), [pact]), (shop, ()), ((), pact), ((("shop", SHOP.text),), ()), ((["shop", SHOP],), ()),
                 ((shop, shop), ()), ((("till", TILL), shop), ()), ((("bank", SHOP),), ()), ((("shop", TILL),), ()),
                 ((("shop", Part(3, SHOP.text)),), ()), ((("shop", Part(2, "door get\n  fail")),), ()), ((shop + (0,),), ()),
                 ((), (pact, pact)), ((), (pact, (PAY, SYSTEM.pact(PAY)))), ((), ((("till", "bank"), ONCE),)), ((), ((PAY, ONCE),)),
                 ((), ((GET, read_pact(3, "state 0\n  get 2 -> 0 0")),)), ((), ((GET, [ONCE]),)), ((), ((GET,),)), ((), (("shop", SHOP),)),
                 (((GET, ONCE),), ()), ((shop,), ((GET, ()),)), (((None, SHOP),), ()), ((shop,), (pact, pact)), (None, ()), ((), None),
                 ((("till", Part(2, TILL.text.replace("port shop", "port bank").replace("ask shop", "ask bank"))),), ()),
                 ((("till", Part(2, TILL.text.replace("get", "buy"))),), ())]
        for parts, pacts in wrong:
            self.assertEqual(told(lambda: keeper.edit(parts=parts, pacts=pacts)), ("BadEdit", (parts, pacts)))
        for value in ODD_VALUES:
            cases = [((shop,), value), (value, (pact,)), (value, value), ((value,), ()), ((), (value,)), ((("shop", value),), ()),
                     ((), ((GET, value),)), (((value, SHOP),), ()), ((), ((value, ONCE),)), ((shop, value), ()), ((), (value, pact))]
            for parts, pacts in cases:
                if value == () and len(parts) + len(pacts) == 1 and (parts or pacts)[0] in (shop, pact) or (
                        parts == () and exactly(pacts) == exactly(((GET, value),)) and is_pact(2, value)):
                    continue
                name, found = told(lambda: keeper.edit(parts=parts, pacts=pacts))
                self.assertEqual(name, "BadEdit")
                self.assertIs(found[0], parts)
                self.assertIs(found[1], pacts)
        self.assertEqual(standing(keeper), before)

    def test_errors_in_their_sequence(self):
        amid, ended = keeper_of(SYSTEM, *PAID[:2]), keeper_of(TIGHT, *PAID, *NOTHING_LEFT)
        for call in (lambda keeper: keeper.edit(), lambda keeper: keeper.edit(parts=3), lambda keeper: keeper.edit(pacts=((GET, ONCE),))):
            self.assertEqual(told(lambda: call(amid)), ("Amid", None))
            self.assertEqual(told(lambda: call(ended)), ("Ended", None))
        self.assertRaises(TypeError, lambda: amid.edit((), ()))

    def test_from_all_moments(self):
        # One of the moments is right for the new pact, the other one is not.
        keeper = keeper_of(DICE, SET, answered(("", "a"), 0))
        zero = read_pact(2, "state 0\n  told 0 -> 0 0")
        self.assertIs(keeper.copy().edit(pacts=((("", "a"), zero),)), False)
        keeper.see(TOLD)
        keeper.see(answered(("", "a"), 0))
        self.assertIs(keeper.edit(pacts=((("", "a"), zero),)), True)

    def test_from_here_on(self):
        # A shop that has nothing left keeps a pact that it breaks from the beginning on.
        empty = read_pact(2, "state 0\n  get any -> lost 0")
        silent = SYSTEM.with_pact(FILL, ((),))
        keeper = keeper_of(silent, *PAID)
        self.assertEqual(keeps(silent.with_pact(GET, empty), "shop")[0], "breaks")
        self.assertIs(keeper.copy().edit(pacts=((GET, empty),)), True)
        self.assertIs(keeper.copy().edit(parts=(("shop", SHOP),), pacts=((GET, empty),)), False)
        self.assertIs(Keeper(silent).edit(pacts=((GET, empty),)), False)

    def test_what_the_other_parts_do_counts_too(self):
        keeper = Keeper(SYSTEM)
        greedy = Part(2, TILL.text.replace("get it", "fill it"))
        self.assertIs(keeper.edit(parts=(("till", greedy),)), False)
        self.assertIs(keeper.edit(pacts=((GET, read_pact(2, "state 0\n  fill any -> any 0")),)), True)

    def test_where_too_much_comes_to_tell(self):
        wide = clock_system("ab")
        clock = wide.part("a")
        keeper = Keeper(wide)
        self.assertIs(keeper.edit(parts=(("a", clock),)), None)
        # It was put in all the same.
        self.assertEqual(keeper.journal.count("\n  edit"), 1)
        # The first part at which one of the two is the case tells.
        broken = Part(4, "door x\n  fail")
        self.assertIs(keeper.edit(parts=(("b", broken),)), None)
        self.assertIs(keeper.edit(parts=(("a", Part(4, clock.text.replace("answer 0", "fail"))),)), False)
        self.assertIs(Keeper(clock_system("ba")).edit(parts=(("b", broken),)), False)
        self.assertIs(Keeper(clock_system("ba")).edit(parts=(("a", clock),)), None)

    def test_edits_can_be_seen_behind(self):
        keeper = Keeper(SYSTEM)
        keeper.edit(pacts=((GET, ONCE),))
        for event in PAID:
            self.assertIs(keeper.see(event), True)
        self.assertEqual(keeper.moments[0][3], (0, 0, 1))


def clock_system(names):
    """Two parts in this sequence: a has more than 4000 scenes, since it and its pact count its calls; b says 0."""
    rows = ["cell k 0", "cell l 0", "cell m 0", "door x", "  add k 1", "  if k = 0", "    add l 1", "    if l = 0", "      add m 1", "  answer 0"]
    parts = {"a": "".join(f"  {row}\n" for row in rows), "b": "  door x\n    answer 0\n"}
    states = "".join(f"  state {at}\n    x 0 -> 0 {(at + 1) % 37}\n" for at in range(37))
    return System("worths 4\n" + "".join(f"part {name}\n{parts[name]}" for name in names) + "outer a\n" + states
                  + "outer b\n  state 0\n    x 0 -> 0 0")


class TakenBack(unittest.TestCase):
    def test_nothing(self):
        keeper = Keeper(SYSTEM)
        before = standing(keeper)
        self.assertEqual((told(keeper.undo), told(keeper.redo)), (("NothingToUndo", None), ("NothingToRedo", None)))
        self.assertEqual(standing(keeper), before)

    def test_over_events_and_edits(self):
        keeper = Keeper(SYSTEM)
        points = [standing(keeper)]
        deeds = [lambda: keeper.see(PAID[0]), lambda: keeper.see(PAID[1]), lambda: keeper.see(PAID[2]), lambda: keeper.see(PAID[3]),
                 lambda: keeper.edit(pacts=((GET, ONCE),)), lambda: keeper.see(NOTHING_LEFT[0]), lambda: keeper.see(NOTHING_LEFT[1]),
                 lambda: keeper.see(NOTHING_LEFT[2])]
        for deed in deeds:
            deed()
            points.append(standing(keeper))
        self.assertEqual(keeper.moments, ())
        for _ in range(2):
            self.assertEqual(told(keeper.redo), ("NothingToRedo", None))
            for point in points[-2::-1]:
                keeper.undo()
                self.assertEqual(standing(keeper), point)
            self.assertEqual(told(keeper.undo), ("NothingToUndo", None))
            for point in points[1:]:
                keeper.redo()
                self.assertEqual(standing(keeper), point)

    def test_behind_something_else(self):
        for deed in (lambda keeper: keeper.see((FILL, "call", "fill", 0)), lambda keeper: keeper.edit(parts=(("shop", SHOP),))):
            keeper = keeper_of(SYSTEM, PAID[0])
            keeper.undo()
            deed(keeper)
            self.assertEqual(told(keeper.redo), ("NothingToRedo", None))
            keeper.undo()
            keeper.redo()
            self.assertEqual(told(keeper.redo), ("NothingToRedo", None))
        # The same event once more is something else, too.
        keeper = keeper_of(SYSTEM, *PAID)
        for _ in range(4):
            keeper.undo()
        keeper.see(PAID[0])
        self.assertEqual(told(keeper.redo), ("NothingToRedo", None))

    def test_questions_leave_it(self):
        keeper = keeper_of(SYSTEM, *PAID)
        keeper.undo()
        keeper.events(), keeper.word(GET), told(lambda: keeper.foretold(PAY, "pay", 0)), keeper.copy(), keeper == keeper.copy()
        keeper.redo()
        self.assertEqual(keeper.story, PAID)


class Trials(unittest.TestCase):
    def ahead(self):
        """A keeper with something that can be undone, and something that can be redone."""
        keeper = keeper_of(SYSTEM, *PAID)
        keeper.edit(parts=(("shop", NEW_SHOP),))
        keeper.see(PAID[0])
        keeper.undo()
        keeper.undo()
        return keeper

    def same(self, keeper, other):
        """Whether they are alike in all, also in what can be undone and redone."""
        one, two = keeper.copy(), other.copy()
        self.assertEqual(standing(one), standing(two))
        for step in ("redo", "undo"):
            going = True
            while going:
                results = [told(getattr(each, step)) for each in (one, two)]
                self.assertEqual(results[0], results[1])
                self.assertEqual(standing(one), standing(two))
                going = results[0] is None

    def test_as_ahead_of_the_block(self):
        keeper = self.ahead()
        with keeper.trial() as trial:
            self.assertIsNotNone(trial)
            keeper.see(PAID[0])
            keeper.see((GET, "call", "get", 1))
        self.same(keeper, self.ahead())
        with keeper.trial():
            keeper.redo()
            keeper.redo()
            keeper.undo()
        self.same(keeper, self.ahead())
        with keeper.trial():
            for _ in range(4):
                keeper.undo()
            keeper.edit(pacts=((GET, ONCE),))
        self.same(keeper, self.ahead())
        with keeper.trial():
            pass
        self.same(keeper, self.ahead())

    def test_kept(self):
        keeper = self.ahead()
        with keeper.trial() as trial:
            keeper.see(PAID[0])
            trial.keep()
            keeper.see(PAID[1])
        other = self.ahead()
        other.see(PAID[0])
        other.see(PAID[1])
        self.same(keeper, other)
        self.assertEqual(told(keeper.redo), ("NothingToRedo", None))

    def test_not_kept_where_an_error_leaves_it(self):
        for error in (ValueError("no"), KeyError(3), WireError(None), RuntimeError()):
            keeper = self.ahead()
            with self.assertRaises(type(error)) as caught:
                with keeper.trial() as trial:
                    trial.keep()
                    keeper.see(PAID[0])
                    raise error
            self.assertIs(caught.exception, error)
            self.same(keeper, self.ahead())
        with self.assertRaises(WireError):
            with keeper.trial() as trial:
                keeper.see(PAID[0])
                trial.keep()
                keeper.see(PAID[0])
        self.same(keeper, self.ahead())

    def test_an_error_that_is_caught_in_the_block(self):
        keeper = self.ahead()
        with keeper.trial() as trial:
            keeper.see(PAID[0])
            self.assertEqual(told(lambda: keeper.see(None)), ("NoEvent", None))
            trial.keep()
        self.assertEqual(keeper.story, PAID + PAID[:1])

    def test_a_block_that_is_left_early(self):
        keeper = self.ahead()

        def leaves(keep):
            with keeper.trial() as trial:
                keeper.see(PAID[0])
                if keep:
                    trial.keep()
                return len(keeper.story)

        self.assertEqual((leaves(False), len(keeper.story)), (5, 4))
        self.assertEqual((leaves(True), len(keeper.story)), (5, 5))

    def test_keep_ahead_of_the_block_is_not_in_it(self):
        keeper = self.ahead()
        trial = keeper.trial()
        trial.keep()
        keeper.see(PAID[0])
        with trial as same:
            self.assertIs(same, trial)
            keeper.see(PAID[1])
        # It is as it was ahead of the block, not as it was when the trial was made.
        self.assertEqual(keeper.story, PAID + PAID[:1])

    def test_trials_in_trials(self):
        for inner, outer, many in ((False, False, 0), (True, False, 0), (False, True, 1), (True, True, 2)):
            keeper = Keeper(SYSTEM)
            with keeper.trial() as one:
                keeper.see(PAID[0])
                with keeper.trial() as two:
                    keeper.see(PAID[1])
                    if inner:
                        two.keep()
                self.assertEqual(len(keeper.story), 1 + inner)
                if outer:
                    one.keep()
            self.assertEqual(keeper.story, PAID[:many])

    def test_keeping_the_outer_one_alone(self):
        keeper = Keeper(SYSTEM)
        with keeper.trial() as one:
            with keeper.trial():
                keeper.see(PAID[0])
                one.keep()
            keeper.see((FILL, "call", "fill", 0))
        self.assertEqual(keeper.story, ((FILL, "call", "fill", 0),))

    def test_tried(self):
        keeper = self.ahead()
        self.assertEqual(keeper.tried(lambda other: (other is keeper, other.see(PAID[0]), len(other.story))), (True, True, 5))
        self.same(keeper, self.ahead())
        self.assertIsNone(keeper.tried(lambda other: None, keep=True))
        self.same(keeper, self.ahead())
        self.assertIs(keeper.tried(lambda other: other.see(PAID[0]), keep=True), True)
        self.assertEqual(len(keeper.story), 5)
        self.assertRaises(TypeError, lambda: keeper.tried(lambda other: None, True))

    def test_kept_by_true_itself(self):
        for value in ODD_VALUES + (1, "True", 1.0, (True,), [True]):
            keeper = self.ahead()
            self.assertIs(keeper.tried(lambda other: other.see(PAID[0]), keep=value), True)
            self.assertEqual(len(keeper.story), 5 if value is True else 4)

    def test_tried_where_look_raises(self):
        def look(other):
            other.see(PAID[0])
            other.see(PAID[0])

        for keep in (True, False):
            keeper = self.ahead()
            self.assertEqual(told(lambda: keeper.tried(look, keep=keep)), ("NoEvent", PAID[0]))
            self.same(keeper, self.ahead())

    def test_tried_in_tried(self):
        keeper = Keeper(SYSTEM)
        found = keeper.tried(lambda other: (other.tried(lambda same: same.see(PAID[0]), keep=True), other.story), keep=False)
        self.assertEqual((found, keeper.story), ((True, PAID[:1]), ()))


class Copies(unittest.TestCase):
    def test_they_go_on_by_themselves(self):
        keeper = keeper_of(SYSTEM, *PAID[:3])
        keeper.undo()
        before = standing(keeper)
        other = keeper.copy()
        self.assertEqual(standing(other), before)
        other.redo()
        other.see(PAID[3])
        other.edit(pacts=((GET, ONCE),))
        self.assertEqual(standing(keeper), before)
        third = other.copy()
        for _ in range(5):
            third.undo()
        self.assertEqual(told(third.undo), ("NothingToUndo", None))
        keeper.redo()
        self.assertEqual(keeper.story, PAID[:3])
        self.assertEqual((other.story, other.system.pact(GET)), (PAID, ONCE))

    def test_a_copy_that_is_made_in_a_trial(self):
        keeper = Keeper(SYSTEM)
        with keeper.trial():
            keeper.see(PAID[0])
            other = keeper.copy()
        self.assertEqual((keeper.story, other.story), ((), PAID[:1]))

    def test_equal_by_their_journals(self):
        one, two = keeper_of(SYSTEM, *PAID), keeper_of(SYSTEM, *PAID)
        self.assertTrue(one == two)
        self.assertFalse(one != two)
        two.see(PAID[0])
        self.assertFalse(one == two)
        two.undo()
        # What can be redone is in no journal.
        self.assertTrue(one == two)
        self.assertTrue(one == one.copy())
        self.assertTrue(one == read_journal(one.journal))
        for value in ODD_VALUES + (one.journal, SYSTEM, one.story):
            self.assertFalse(one == value)
            self.assertTrue(one != value)
        edited = Keeper(SYSTEM)
        edited.edit(parts=(("shop", SHOP),))
        self.assertFalse(edited == Keeper(SYSTEM))

    def test_the_first_system_counts_by_its_text(self):
        other = System(SYSTEM.text.replace("get any -> any 0, lost 0", "get 1 -> lost 0, any 0\n    get 0 -> 0 0, 1 0, lost 0"))
        self.assertNotEqual(other.text, SYSTEM.text)
        self.assertTrue(Keeper(other) == Keeper(SYSTEM))
        self.assertFalse(Keeper(TIGHT) == Keeper(SYSTEM))


def random_deed(draw, keeper):
    """A deed that can be done: an event, or an edit at rest; None if there is none."""
    if keeper.at_rest and draw.random() < 0.2:
        parts, pacts = [], []
        for name in sorted(keeper.system.parts):
            if draw.random() < 0.4:
                part = keeper.system.part(name)
                parts.append((name, part if draw.random() < 0.4 else other_edition(draw, part)))
        for wire in keeper.system.wires:
            if draw.random() < 0.3:
                rows = pact_rows(draw, keeper.system.part(keeper.system.offerer(wire)).doors, 0.85, 2)
                pacts.append((wire, read_pact(keeper.system.worths, "\n".join(row[2:] for row in rows))))
        edit = ("edit", tuple(parts), tuple(pacts))
        if isinstance(told(lambda: keeper.copy().edit(parts=edit[1], pacts=edit[2])), (bool, type(None))):
            return edit
    events = keeper.events()
    return ("see", draw.choice(events)) if events else None


def do(keeper, deed):
    return keeper.see(deed[1]) if deed[0] == "see" else keeper.edit(parts=deed[1], pacts=deed[2])


class Histories(unittest.TestCase):
    def like(self, keeper, system, deeds):
        """At a point a keeper tells what a fresh one tells that does the deeds that stand, and one of its journal."""
        plain = PlainKeeper(system, deeds)
        self.assertEqual(keeper.system, plain.system)
        self.assertEqual(keeper.moments, tuple(sorted(plain.moments)))
        self.assertEqual((keeper.story, keeper.at_rest, keeper.events()), (plain.story, plain.at_rest(), plain.events()))
        self.assertEqual({wire: keeper.word(wire) for wire in system.wires}, plain.words)
        self.assertEqual(keeper.journal, journal_of(system, deeds))
        if keeper.at_rest:
            for event in keeper.events():
                self.assertEqual(keeper.foretold(event[0], *event[2:]), plain.foretold(event[0], *event[2:]))

    def fresh(self, system, deeds):
        keeper = Keeper(system)
        for deed in deeds:
            do(keeper, deed)
        return keeper

    def test_at_each_point(self):
        # Guarantee (h).
        count = {"undo": 0, "redo": 0, "trial": 0, "see": 0, "edit": 0, "ended": 0, True: 0, False: 0}
        for seed in range(40):
            system = kept_or_not(seed)
            draw, keeper, deeds, undone = Random(seed), Keeper(system), [], []
            for _ in range(60):
                kind = draw.random()
                if kind < 0.15 and deeds:
                    keeper.undo()
                    undone.append(deeds.pop())
                    count["undo"] += 1
                elif kind < 0.25 and undone:
                    keeper.redo()
                    deeds.append(undone.pop())
                    count["redo"] += 1
                elif kind < 0.4:
                    with keeper.trial():
                        for _ in range(draw.randint(1, 4)):
                            deed = random_deed(draw, keeper)
                            if draw.random() < 0.3 or deed is None:
                                told(keeper.undo)
                            else:
                                do(keeper, deed)
                    count["trial"] += 1
                else:
                    deed = random_deed(draw, keeper)
                    if deed is None:
                        count["ended"] += 1
                        continue
                    keeps_on = do(keeper, deed)
                    deeds, undone = deeds + [deed], []
                    count[deed[0]] += 1
                    if deed[0] == "edit":
                        self.assertEqual(keeps_on, PlainKeeper(system, deeds).all_keep())
                        count[keeps_on] += 1
                self.like(keeper, system, deeds)
                if draw.random() < 0.15:
                    fresh, read = self.fresh(system, deeds), read_journal(keeper.journal)
                    self.assertEqual(standing(keeper), standing(fresh))
                    self.assertEqual(standing(keeper), standing(read))
                    self.assertTrue(keeper == fresh == read)
        self.assertGreater(min(count.values()), 15, count)

    def test_what_is_let_goes_as_the_whole_tells(self):
        # What keeps tells of the whole, a keeper that follows it finds.
        for system in kept_systems(15, 400):
            moments, draw = whole(system)[1], Random(4)
            keeper = Keeper(system)
            for _ in range(40):
                events = keeper.events()
                if not events:
                    break
                self.assertIs(keeper.see(draw.choice(events)), True)
                self.assertTrue(set(keeper.moments) <= set(moments))

    def test_a_run_of_the_whole_that_breaks(self):
        for seed in range(120):
            system = random_system(seed)
            word, run = whole(system)
            if word == "broken":
                keeper = Keeper(system)
                self.assertEqual([keeper.see(event) for event in run], [True] * (len(run) - 1) + [False])


def kept_or_not(seed):
    return random_system(seed, 0.95 if seed % 3 else 0.8)


if __name__ == "__main__":
    unittest.main()
