import unittest

from tests.helping import ODD_VALUES, exactly, told
from tests.manysystems import kept_systems, random_system
from tests.test_journals import HEAD, SEEN, text_of
from tests.test_keeper import DICE, DRAWERS, NOTHING_LEFT, PAID, SHOP, SET, answered, keeper_of, standing
from tests.test_keeping import GET, PAY, RING, SYSTEM, TIGHT
from tests.test_tested import ONCE, STUBBORN_TILL
from tests.test_wholes import LOOP, ROUND, counter
from truestandins.counting import asks, bound, most
from truestandins.desk import Desk
from truestandins.keeper import Keeper
from truestandins.keeping import keeps
from truestandins.lived import lived
from truestandins.pacttexts import read_pact, show_pact
from truestandins.systems import System
from truestandins.texts import show_run
from truestandins.weakest import loose, stand_in, weakest
from truestandins.wholes import judged

FLIP = System(
    "worths 2\npart pair\n  cell a 0\n  port s\n  door pay\n    ask s get 0\n    set a got\n    ask s get 0\n    if got = a\n      answer 1\n"
    "part flip\n  cell n 0\n  door get\n    add n 1\n    answer n\nwire pair s flip\n  state 0\n    get 0 -> any 0\nouter pair\n"
    "  state 0\n    pay 0 -> any 0")


def desk_of(system, *events):
    return Desk(keeper_of(system, *events).journal)


class Examples(unittest.TestCase):
    def test_as_they_stand(self):
        keeper = keeper_of(SYSTEM, *PAID)
        keeper.edit(pacts=((GET, ONCE),))
        desk = Desk(keeper.journal)
        self.assertEqual([desk.say(line) for line in ("rest", "undo", "call - till pay 0", "events", "judged", "most till")],
                         ["yes", "ok", "let", "call till shop get 0", "till keeps; shop keeps; whole kept", "1"])


class Lines(unittest.TestCase):
    def says(self, desk, *pairs):
        for line, answer in pairs:
            self.assertEqual(desk.say(line), answer, line)

    def test_events(self):
        desk = desk_of(TIGHT)
        self.says(desk, ("call - till pay 1", "let"), ("call till shop get 1", "let"), ("answer till shop 1", "let"), ("answer - till 1", "let"),
                  ("call - till pay 0", "let"), ("call till shop get 0", "let"), ("answer till shop lost", "not let"))
        self.assertEqual(desk.keeper.story, PAID + NOTHING_LEFT)
        ring = desk_of(RING)
        self.says(ring, ("call - a go 0", "let"), ("call a q come 0", "let"), ("call b p go 0", "let"), ("answer b p busy", "let"))

    def test_undo_and_redo(self):
        desk = desk_of(SYSTEM, *PAID)
        self.says(desk, ("undo", "ok"), ("undo", "ok"), ("redo", "ok"))
        self.assertEqual(desk.keeper.story, PAID[:3])

    def test_events_told(self):
        self.says(desk_of(SYSTEM), ("events", "call - shop fill 0; call - till pay 0; call - till pay 1"))
        self.says(desk_of(SYSTEM, *PAID[:2]), ("events", "answer till shop 1"))
        self.says(desk_of(TIGHT, *PAID, *NOTHING_LEFT[:2]), ("events", "answer till shop lost"))
        self.says(desk_of(TIGHT, *PAID, *NOTHING_LEFT), ("events", "-"))
        self.says(desk_of(SYSTEM.with_pact(PAY, ((),)).with_pact(("", "shop"), ((),))), ("events", "-"))

    def test_rest(self):
        self.says(desk_of(SYSTEM), ("rest", "yes"))
        self.says(desk_of(SYSTEM, *PAID[:1]), ("rest", "no"))
        self.says(desk_of(SYSTEM, *PAID), ("rest", "yes"))
        self.says(desk_of(TIGHT, *PAID, *NOTHING_LEFT), ("rest", "no"))

    def test_judged_and_keeps(self):
        self.says(desk_of(TIGHT), ("judged", "till keeps; shop breaks; whole broken"), ("keeps till", "keeps"), ("keeps shop", "breaks 4"))
        self.says(desk_of(RING), ("judged", "a keeps; b keeps; whole kept"), ("keeps a", "keeps"))

    def test_spare(self):
        self.says(desk_of(SYSTEM), ("spare", "14 0 4"))
        self.says(desk_of(FLIP), ("spare", "5 1 0"))

    def test_weakest_and_standin(self):
        strict = SYSTEM.with_pact(PAY, read_pact(2, "state 0\n  pay 0 -> 0 0, lost 0\n  pay 1 -> 1 0, lost 0"))
        self.says(desk_of(strict), ("weakest till shop", "2"),
                  ("standin till shop", "state 0; get 0 -> 0 0, lost 0, busy 0; get 1 -> 1 0, lost 0"))
        every = "0 0, 1 0, lost 0, busy 0"
        self.says(desk_of(strict.with_pact(GET, stand_in(strict, GET))), ("weakest - till", "1"), (
            "standin - shop", "; ".join(["state 0"] + [f"{call} -> {every}" for call in ("fill 0", "fill 1", "get 0", "get 1")])))

    def test_none(self):
        system = SYSTEM.with_pact(("", "shop"), read_pact(2, "state 0\n  fill 0 -> busy 0"))
        self.assertEqual((weakest(system, GET)[0], stand_in(system, GET)), ("none", None))
        self.says(desk_of(system), ("weakest till shop", "none"), ("standin till shop", "none"))

    def test_loose(self):
        self.says(desk_of(SYSTEM), ("loose", "till shop"))
        self.assertEqual(loose(ROUND)[0][0], ("a", "p"))
        shown = "; ".join(f"{wire[0]} {wire[1]}" for wire, word in loose(ROUND) if word is not None) or "-"
        self.says(desk_of(ROUND), ("loose", shown))
        widest = SYSTEM.with_pact(GET, stand_in(SYSTEM, GET))
        self.assertEqual(loose(widest), ((GET, None),))
        self.says(desk_of(widest), ("loose", "-"))
        self.says(desk_of(DICE), ("loose", "-"))

    def test_most_asks_and_bound(self):
        self.says(desk_of(SYSTEM), ("most till", "1"), ("most shop", "0"), ("asks", "1"), ("bound", "0 1"))
        self.says(desk_of(RING), ("most a", "1"), ("asks", "2"), ("bound", "2"))
        self.says(desk_of(STUBBORN_TILL), ("most till", "endless"), ("most shop", "0"), ("asks", "endless"), ("bound", "none none"))
        self.says(desk_of(LOOP), ("asks", "endless"), ("bound", "none"), ("most c", "1"))

    def test_foretold(self):
        self.says(desk_of(SYSTEM), ("foretold till pay 1", "1"), ("foretold till pay 0", "0"), ("foretold shop fill 0", "0"))
        self.says(desk_of(SYSTEM, *PAID), ("foretold till pay 1", "lost"))
        self.says(desk_of(DICE, SET, answered(("", "a"), 0)), ("foretold a told 0", "0 1"))
        self.says(desk_of(TIGHT, *PAID), ("foretold till pay 1", "- breaks"))
        self.says(desk_of(LOOP), ("foretold a x 0", "- lasts"))
        self.says(desk_of(STUBBORN_TILL), ("foretold till pay 1", "1"))
        self.says(desk_of(STUBBORN_TILL, *PAID), ("foretold till pay 1", "- lasts"))
        dice = "part shop\n  cell n 0\n  door get\n    draw n\n    if n = 0\n      fail\n    answer it\n  door fill\n    answer 0\n"
        lucky = STUBBORN_TILL.text.replace("part shop\n" + "".join(f"  {row}\n" for row in SHOP.text.split("\n")), dice)
        self.says(desk_of(System(lucky)), ("foretold till pay 1", "1 lasts"))
        tight = System(lucky).with_pact(PAY, read_pact(2, "state 0\n  pay 1 -> 0 0\n  pay 0 -> 0 0"))
        self.says(desk_of(tight), ("foretold till pay 1", "- breaks lasts"), ("foretold till pay 0", "0 lasts"))
        lost = SYSTEM.text.replace("part shop\n" + "".join(f"  {row}\n" for row in SHOP.text.split("\n")), dice)
        self.says(desk_of(System(lost)), ("foretold till pay 1", "lost 1"))

    def test_of_its_system(self):
        # All is told of the system that stands now, from its beginning on.
        keeper = keeper_of(SYSTEM, *PAID)
        keeper.edit(pacts=((GET, ONCE),))
        desk = Desk(keeper.journal)
        self.says(desk, ("judged", "till keeps; shop breaks; whole broken"), ("undo", "ok"), ("judged", "till keeps; shop keeps; whole kept"),
                  ("redo", "ok"), ("judged", "till keeps; shop breaks; whole broken"))

    def test_against_the_functions(self):
        for system in kept_systems(25, 50) + [random_system(seed) for seed in range(25)]:
            desk = desk_of(system)
            self.assertEqual(desk.say("judged"), "; ".join(f"{name or 'whole'} {word}" for name, word in judged(system)))
            self.assertEqual(desk.say("events"), "; ".join(show_run((event,)) for event in desk.keeper.events()) or "-")
            for name in system.parts:
                word, proof = keeps(system, name)
                self.assertEqual(desk.say("keeps " + name), word if word == "keeps" else f"breaks {len(proof)}")
                found = told(lambda: most(system, name))
                self.assertEqual(told(lambda: desk.say("most " + name)), number(found))
            for wire in system.wires:
                shown = f"{wire[0] or '-'} {wire[1]}"
                found = told(lambda: weakest(system, wire))
                if found[0] in ("pact", "none"):
                    self.assertEqual(desk.say("weakest " + shown), str(len(found[1])) if found[0] == "pact" else "none")
                pact = told(lambda: stand_in(system, wire))
                if pact is None:
                    self.assertEqual(desk.say("standin " + shown), "none")
                elif pact[0] != "TooMany":
                    text = "; ".join(row.strip() for row in show_pact(pact).split("\n"))
                    self.assertEqual(desk.say("standin " + shown), text)
            self.assertEqual(told(lambda: desk.say("asks")), number(told(lambda: asks(system))))
            for line, call in (("spare", lived), ("bound", bound), ("loose", loose)):
                found = told(lambda: call(system))
                if found[:1] == ("NotKept",):
                    self.assertEqual(told(lambda: desk.say(line)), found)
            if "breaks" not in dict(judged(system)).values():
                words = [row[1] for row in lived(system)[1]]
                self.assertEqual(desk.say("spare"), " ".join(str(words.count(word)) for word in ("whole", "needed", "spare")))
                self.assertEqual(desk.say("bound"), " ".join("none" if many is None else str(many) for _, many in bound(system)))

    def test_desks_say_strings(self):
        desk = Desk(text=text_of(*HEAD))
        for line in ("events", "rest", "judged", "keeps till", "spare", "weakest till shop", "standin till shop", "loose", "most till", "asks",
                     "bound", "foretold till pay 0", "call - till pay 1", "undo", "redo"):
            self.assertIsInstance(desk.say(line=line), str)


def number(found):
    return str(found[1]) if found[0] == "most" else found[0] if found[0] == "endless" else found


class Errors(unittest.TestCase):
    def bad(self, desk, value):
        name, found = told(lambda: desk.say(value))
        self.assertEqual(name, "BadLine", value)
        self.assertIs(found, value)

    def test_what_is_no_line_by_its_form(self):
        wrong = [
            "", " ", "undo ", " undo", "Undo", "undo undo", "redo 1", "events -", "rest rest", "judged till", "spare 0", "loose till shop", "asks till",
            "bound -", "keeps", "keeps ", "keeps Till", "keeps till shop", "keeps -", "keeps  till", "most", "most 1", "most till till", "weakest",
            "weakest till", "weakest till shop 0", "weakest till -", "weakest - -", "weakest Till shop", "standin", "standin till", "standin till -",
            "stand in till shop", "foretold", "foretold till", "foretold till pay", "foretold till pay 4", "foretold till pay -1",
            "foretold till any 0", "foretold - till pay 0", "foretold till pay 0 0", "foretold till pay any", "foretold  till pay 0",
            "foretold Till pay 0", "call - till pay", "call - till pay 4", "call till pay 1", "answer - till", "answer - till any", "answer till 0",
            "call - till pay 1\n", "undo\n", "undo\nredo", "call - till pay 1; undo", "whole", "see", "edit", "journal", "lived", "keeps till;", "system",
            "deeds", "word till shop", "keeps toolongname", "foretold till pay 00", "standin till shop ", "\u0661",
        ]
        for desk in (desk_of(SYSTEM), desk_of(SYSTEM, *PAID[:2]), desk_of(TIGHT, *PAID, *NOTHING_LEFT)):
            before = standing(desk.keeper)
            for value in wrong:
                self.bad(desk, value)
            for value in ODD_VALUES:
                self.bad(desk, value)
            self.assertEqual(standing(desk.keeper), before)

    def raises(self, desk, line, name, value):
        before = standing(desk.keeper)
        self.assertEqual(told(lambda: desk.say(line)), (name, value), line)
        self.assertEqual(standing(desk.keeper), before)

    def test_those_of_the_keeper(self):
        fresh, amid, ended = desk_of(SYSTEM), desk_of(SYSTEM, *PAID[:2]), desk_of(TIGHT, *PAID, *NOTHING_LEFT)
        self.raises(fresh, "undo", "NothingToUndo", None)
        self.raises(fresh, "redo", "NothingToRedo", None)
        self.raises(fresh, "call - till pay 3", "NoEvent", (PAY, "call", "pay", 3))
        self.raises(fresh, "answer - bank lost", "NoEvent", (("", "bank"), "answer", -1))
        self.raises(ended, "call - till pay 3", "Ended", (PAY, "call", "pay", 3))
        self.raises(ended, "foretold bank pay 3", "Ended", None)
        self.raises(amid, "foretold bank pay 3", "Amid", None)
        self.raises(fresh, "foretold bank pay 3", "NoWire", ("", "bank"))
        self.raises(fresh, "foretold till pay 3", "BadCall", ("pay", 3))
        self.raises(fresh, "foretold till fill 0", "BadCall", ("fill", 0))
        drawers = desk_of(DRAWERS)
        for line in ("call - a x 0", "answer - a 0", "call - b x 0"):
            drawers.say(line)
        self.raises(drawers, "answer - b 0", "TooMany", 4000)

    def test_those_of_the_functions(self):
        tight = desk_of(TIGHT)
        self.raises(tight, "keeps bank", "NoPart", "bank")
        self.raises(tight, "most bank", "NoPart", "bank")
        self.raises(tight, "most shop", "NotKept", "shop")
        self.raises(tight, "asks", "NotKept", "")
        for line in ("spare", "loose", "bound"):
            self.raises(tight, line, "NotKept", "shop")
        for line in ("weakest", "standin"):
            self.raises(tight, line + " - bank", "NoWire", ("", "bank"))
            self.raises(tight, line + " shop till", "NoWire", ("shop", "till"))
        many = desk_of(counter([10] + [9] * 399))
        for line in ("judged", "keeps a", "most a", "asks", "bound", "spare", "loose"):
            self.raises(many, line, "TooMany", 4000)

    def test_what_was_raised_changes_nothing(self):
        desk = desk_of(SYSTEM, *PAID)
        desk.say("undo")
        for line in ("call - till pay 0", "asks now", "keeps bank", "foretold till pay 1"):
            self.assertIn(told(lambda: desk.say(line))[0], ("NoEvent", "BadLine", "NoPart", "Amid"))
        self.assertEqual(desk.say("redo"), "ok")

    def test_raises_as_read_journal(self):
        for value in ODD_VALUES:
            if not isinstance(value, str):
                self.assertEqual(told(lambda: Desk(value)), ("BadText", -1))
        self.assertEqual(told(lambda: Desk("")), ("BadText", 0))
        self.assertEqual(told(lambda: Desk(text_of(*HEAD, "undo"))), ("BadText", len(HEAD)))
        self.assertEqual(told(lambda: Desk(text_of(*HEAD, SEEN[1]))), ("NoEvent", (GET, "call", "get", 1)))
        self.assertEqual(told(lambda: Desk(text_of(*HEAD, "  edit", "    part shop"))), ("BadText", len(HEAD) + 2))

    def test_its_keeper(self):
        desk = Desk(text_of(*HEAD, *SEEN))
        self.assertIsInstance(desk.keeper, Keeper)
        self.assertEqual(standing(desk.keeper), standing(keeper_of(SYSTEM, *PAID)))
        desk.say("undo")
        self.assertEqual(exactly(desk.keeper.story), exactly(PAID[:3]))


if __name__ == "__main__":
    unittest.main()
