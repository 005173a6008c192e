import unittest
from random import Random

from tests.helping import ODD_VALUES, exactly, told
from tests.manysystems import random_system
from tests.plainkeeper import journal_of
from tests.test_keeper import DRAWERS, NEW_SHOP, NOTHING_LEFT, PAID, SHOP, answered, do, keeper_of, random_deed, standing
from tests.test_keeping import GET, PAY, RING, SYSTEM, TIGHT
from tests.test_tested import ONCE
from tests.test_wholes import FILL
from truestandins.journals import read_journal
from truestandins.keeper import Keeper
from truestandins.pacttexts import read_pact, show_pact
from truestandins.parts import Part
from truestandins.systems import System

HEAD = [
    "system", "  worths 2", "  part till", "    port shop", "    door pay", "      ask shop get it", "      if lost", "        fail",
    "      answer got", "  part shop", "    cell has 1", "    door get", "      if has = 0", "        fail", "      set has 0",
    "      answer it", "    door fill", "      set has 1", "  wire till shop shop", "    state 0", "      get 0 -> 0 0, 1 0, lost 0",
    "      get 1 -> 0 0, 1 0, lost 0", "  outer till", "    state 0", "      pay 0 -> 0 0, 1 0, lost 0", "      pay 1 -> 0 0, 1 0, lost 0",
    "  outer shop", "    state 0", "      fill 0 -> 0 0", "deeds",
]
SEEN = ["  call - till pay 1", "  call till shop get 1", "  answer till shop 1", "  answer - till 1"]
PART = ["    part shop"] + ["      " + row for row in SHOP.text.split("\n")]
PACT = ["    pact till shop"] + ["      " + row for row in show_pact(ONCE).split("\n")]


def text_of(*rows):
    return "\n".join(rows)


class Journals(unittest.TestCase):
    def test_of_a_fresh_one(self):
        self.assertEqual(Keeper(SYSTEM).journal, text_of(*HEAD))

    def test_of_events(self):
        self.assertEqual(keeper_of(SYSTEM, *PAID).journal, text_of(*HEAD, *SEEN))
        lost = keeper_of(TIGHT, *PAID, *NOTHING_LEFT).journal
        self.assertEqual(lost.split("\n")[-3:], ["  call - till pay 0", "  call till shop get 0", "  answer till shop lost"])
        busy = keeper_of(RING, (("", "a"), "call", "go", 0), (("a", "q"), "call", "come", 0), (("b", "p"), "call", "go", 0),
                         (("b", "p"), "answer", -2)).journal
        self.assertEqual(busy.split("\n")[-1], "  answer b p busy")

    def test_of_edits(self):
        keeper = keeper_of(SYSTEM, *PAID)
        keeper.edit(parts=(("shop", SHOP),))
        self.assertEqual(keeper.journal, text_of(*HEAD, *SEEN, "  edit", *PART))
        keeper.edit(pacts=((PAY, SYSTEM.pact(PAY)), (GET, ONCE)))
        pay = ["    pact - till", "      state 0", "        pay 0 -> 0 0, 1 0, lost 0", "        pay 1 -> 0 0, 1 0, lost 0"]
        self.assertEqual(keeper.journal, text_of(*HEAD, *SEEN, "  edit", *PART, "  edit", *pay, *PACT))
        both = Keeper(SYSTEM)
        both.edit(pacts=((GET, ONCE),), parts=(("shop", NEW_SHOP), ("till", SYSTEM.part("till"))))
        till = ["    part till"] + ["      " + row for row in SYSTEM.part("till").text.split("\n")]
        shop = [row.replace("cell has 1", "cell has 0") for row in PART]
        self.assertEqual(both.journal, text_of(*HEAD, "  edit", *shop, *till, *PACT))

    def test_the_first_system_stands_first(self):
        keeper = Keeper(SYSTEM)
        keeper.edit(pacts=((GET, ONCE),))
        self.assertEqual(keeper.journal.split("\n")[:len(HEAD)], HEAD)

    def test_pacts_as_show_pact_writes_them(self):
        other = System(SYSTEM.text.replace("get any -> any 0, lost 0", "get 1 -> lost 0, any 0\n    get 0 -> lost 0, 1 0, 0 0"))
        self.assertEqual(Keeper(other).journal, text_of(*HEAD))
        self.assertEqual(read_journal(Keeper(other).journal).system, SYSTEM)

    def test_parts_and_wires_as_they_stood(self):
        rows = SYSTEM.text.split("\n")
        till, shop = rows[1:8], rows[8:17]
        self.assertEqual((till[0], shop[0]), ("part till", "part shop"))
        turned = System("\n".join(rows[:1] + shop + till + rows[17:]))
        self.assertEqual(Keeper(turned).journal.split("\n")[2], "  part shop")
        self.assertEqual(read_journal(Keeper(turned).journal).system.parts, ("shop", "till"))

    def test_deeds_that_were_taken_back_are_left_out(self):
        keeper = keeper_of(SYSTEM, *PAID)
        keeper.edit(parts=(("shop", SHOP),))
        keeper.undo()
        self.assertEqual(keeper.journal, text_of(*HEAD, *SEEN))
        keeper.undo()
        self.assertEqual(keeper.journal, text_of(*HEAD, *SEEN[:3]))
        keeper.redo()
        keeper.redo()
        self.assertEqual(keeper.journal, text_of(*HEAD, *SEEN, "  edit", *PART))
        for _ in range(5):
            keeper.undo()
        keeper.see((FILL, "call", "fill", 0))
        self.assertEqual(keeper.journal, text_of(*HEAD, "  call - shop fill 0"))


class Read(unittest.TestCase):
    def test_what_is_read_is_told(self):
        for keeper in (Keeper(SYSTEM), keeper_of(SYSTEM, *PAID), keeper_of(TIGHT, *PAID, *NOTHING_LEFT), Keeper(RING), Keeper(DRAWERS)):
            found = read_journal(text=keeper.journal)
            self.assertIsInstance(found, Keeper)
            self.assertEqual(standing(found), standing(keeper))
            self.assertEqual(found, keeper)

    def test_nothing_of_it_was_taken_back(self):
        keeper = keeper_of(SYSTEM, *PAID)
        keeper.undo()
        found = read_journal(keeper.journal)
        self.assertEqual(told(found.redo), ("NothingToRedo", None))
        for _ in range(3):
            found.undo()
        self.assertEqual(told(found.undo), ("NothingToUndo", None))
        self.assertEqual(found, Keeper(SYSTEM))

    def test_of_many_histories(self):
        for seed in range(30):
            system, draw = random_system(seed, 0.92), Random(seed)
            keeper, deeds = Keeper(system), []
            for _ in range(12):
                deed = random_deed(draw, keeper)
                if deed is not None:
                    do(keeper, deed)
                    deeds.append(deed)
            self.assertEqual(keeper.journal, journal_of(system, deeds))
            self.assertEqual(standing(read_journal(keeper.journal)), standing(keeper))

    def test_pacts_and_parts_in_other_forms(self):
        text = text_of(*HEAD, *SEEN, "  edit", "    pact till shop", "      state 0", "        get any -> lost 0, any 0")
        found = read_journal(text)
        self.assertEqual(found.system.pact(GET), SYSTEM.pact(GET))
        self.assertEqual(found.journal.split("\n")[-2:], ["        get 0 -> 0 0, 1 0, lost 0", "        get 1 -> 0 0, 1 0, lost 0"])
        head = text_of(*HEAD).replace("      get 0 -> 0 0, 1 0, lost 0\n      get 1 -> 0 0, 1 0, lost 0", "      get any -> any 0, lost 0")
        self.assertNotEqual(head, text_of(*HEAD))
        self.assertEqual(read_journal(head).journal, text_of(*HEAD))


class BadTexts(unittest.TestCase):
    def bad(self, line, *rows):
        self.assertEqual(told(lambda: read_journal(text_of(*rows))), ("BadText", line), rows[-4:])

    def test_no_string(self):
        for value in ODD_VALUES:
            if not isinstance(value, str):
                self.assertEqual(told(lambda: read_journal(value)), ("BadText", -1))

    def test_lines_of_its_own(self):
        self.bad(0, "")
        for row in ("System", "system ", " system", "  system", "system x", "worths 2", "deeds", ""):
            self.bad(0, row, *HEAD[1:])
        at = len(HEAD) - 1
        for row in ("Deeds", "deeds ", " deeds", "deeds x", "", "edit", "  deeds"):
            self.bad(at, *HEAD[:-1], row)
            self.bad(at, *HEAD[:-1], row, *SEEN)
        self.bad(at, *HEAD[:-1])
        self.bad(at + 1, *HEAD, "deeds")
        self.bad(at + 1, *HEAD, "")
        self.bad(at, *HEAD[:-1], *SEEN)

    def test_in_the_system(self):
        for at in range(1, len(HEAD) - 1):
            margin = HEAD[at][:len(HEAD[at]) - len(HEAD[at].lstrip())]
            self.bad(at, *HEAD[:at], margin + "Bad", *HEAD[at + 1:])
            self.bad(at, *HEAD[:at], margin + "Bad", *HEAD[at + 1:], "Bad")
        # Lines that are missing: the line in their place.
        self.bad(1, "system")
        self.bad(1, "system", "deeds")
        self.bad(2, "system", "  worths 2", "deeds")
        self.bad(3, "system", "  worths 2", "  part till", "deeds")
        self.bad(18, *HEAD[:18], *HEAD[22:])
        self.bad(22, *HEAD[:22], "deeds")
        self.bad(19, *HEAD[:19], *HEAD[22:])
        self.bad(19, *HEAD[:19])
        # A door that the offerer does not have.
        self.bad(20, *HEAD[:20], "      buy 0 -> 0 0", *HEAD[21:])
        self.bad(1, "system", *[row[2:] for row in HEAD[1:-1]], "deeds")

    def test_in_events(self):
        at = len(HEAD)
        for row in ("  call - till pay", "  call - till pay 4", "  call till pay 1", "  call - till any 0", "  answer - till", "  answer - till 4",
                    "  answer - till any", "  asks - till pay 1", "call - till pay 1", "   call - till pay 1", "    call - till pay 1",
                    "  call  - till pay 1", "  call - till pay 1 ", "  undo", "  ", "  edits", "  edit "):
            self.bad(at, *HEAD, row)
            self.bad(at + 1, *HEAD, SEEN[0], row, SEEN[1])
            self.bad(at + 4, *HEAD, *SEEN, row)
        self.bad(at + 1, *HEAD, SEEN[0], "")

    def test_in_edits(self):
        at = len(HEAD)
        edit = [*HEAD, "  edit"]
        self.bad(at + 1, *edit)
        self.bad(at + 1, *edit, SEEN[0])
        self.bad(at + 1, *edit, "  edit", *PART)
        for row in ("    part", "    part Shop", "    part shop x", "    part  shop", "    parts shop", "    pact", "    pact till", "    pact - -",
                    "    pact till -", "    pact till shop shop", "    pact Till shop", "    pact  till shop", "      part shop", "   part shop",
                    "    wire till shop", "    "):
            self.bad(at + 1, *edit, row, *PART[1:])
            self.bad(at + 1, *edit, row, *PACT[1:])
        # Parts stand ahead of pacts.
        self.bad(at + 1 + len(PACT), *edit, *PACT, *PART)
        for line in range(1, len(PART)):
            self.bad(at + 1 + line, *edit, *PART[:line], PART[line].replace(PART[line].lstrip(), "Bad"), *PART[line + 1:])
        # Without the line of state 1 the first row that leads there is bad.
        self.bad(at + 3, *edit, *PACT[:4], "      Bad", *PACT[5:])
        for line in (1, 2, 3, 5, 6):
            self.bad(at + 1 + line, *edit, *PACT[:line], PACT[line].replace(PACT[line].lstrip(), "Bad"), *PACT[line + 1:])
        # Lines that are missing: the line in their place.
        self.bad(at + 2, *edit, "    part shop")
        self.bad(at + 2, *edit, "    part shop", *PACT)
        self.bad(at + 2, *edit, "    pact till shop", "  edit", *PART)
        self.bad(at + 4, *edit, "    part shop", "      cell has 1", "      door get", *PACT)
        # Worths are those of the system, doors of pacts any names.
        self.bad(at + 3, *edit, "    pact till shop", "      state 0", "        get 2 -> 0 0")
        self.bad(at + 2, *edit, "    part shop", "      cell has 2", *PART[2:])
        self.assertEqual(told(lambda: read_journal(text_of(*edit, "    pact till shop", "      state 0", "        buy 0 -> 0 0")))[0], "BadEdit")

    def test_text_goes_ahead_of_deeds(self):
        self.bad(len(HEAD) + 1, *HEAD, "  call - till pay 3", "  Bad")
        self.bad(len(HEAD) + 3, *HEAD, SEEN[0], "  edit", "    part shop")
        self.bad(len(HEAD) + 1, *HEAD, SEEN[1], "Bad")


class Deeds(unittest.TestCase):
    def raises(self, name, value, *rows):
        self.assertEqual(exactly(told(lambda: read_journal(text_of(*rows)))), exactly((name, value)))

    def test_events_that_cannot_come(self):
        self.raises("NoEvent", (PAY, "call", "pay", 3), *HEAD, "  call - till pay 3")
        self.raises("NoEvent", (("", "bank"), "call", "pay", 0), *HEAD, "  call - bank pay 0", SEEN[0])
        self.raises("NoEvent", (PAY, "answer", 1), *HEAD, SEEN[0], SEEN[3], SEEN[1])
        self.raises("NoEvent", (GET, "answer", -2), *HEAD, SEEN[0], SEEN[1], "  answer till shop busy")

    def test_behind_an_event_that_is_not_let(self):
        tight = Keeper(TIGHT).journal
        rows = [tight, *SEEN, "  call - till pay 0", "  call till shop get 0", "  answer till shop lost"]
        self.assertEqual(read_journal(text_of(*rows)).moments, ())
        self.raises("Ended", (PAY, "call", "pay", 0), *rows, "  call - till pay 0")
        self.raises("Ended", (PAY, "call", "pay", 3), *rows, "  call - till pay 3")
        self.raises("Ended", None, *rows, "  edit", *PART)
        self.raises("Ended", None, *rows, "  edit", *PART, *PART)

    def test_edits_that_do_not_fit(self):
        shop = ("shop", SHOP)
        for rows, parts, pacts in (
            ([*PART, *PART], (shop, shop), ()), ([*PACT, *PACT], (), ((GET, ONCE), (GET, ONCE))),
            (["    pact till shop", *PACT[1:], "    pact - till", *PACT[1:]], (), ((GET, ONCE), (PAY, ONCE))),
            (["    part bank", *PART[1:]], (("bank", SHOP),), ()), (["    part till", *PART[1:]], (("till", SHOP),), ()),
            (["    pact - bank", *PACT[1:]], (), ((("", "bank"), ONCE),)), (["    pact - till", *PACT[1:]], (), ((PAY, ONCE),)),
            (["    part till", *PART[1:], *PART], (("till", SHOP), shop), ()),
        ):
            name, value = told(lambda: read_journal(text_of(*HEAD, "  edit", *rows)))
            self.assertEqual((name, value), ("BadEdit", (parts, pacts)))
            self.raises("Amid", None, *HEAD, *SEEN[:2], "  edit", *rows)

    def test_edits_amid(self):
        self.raises("Amid", None, *HEAD, *SEEN[:3], "  edit", *PART, *SEEN[3:])

    def test_the_first_that_raises(self):
        self.raises("NoEvent", (GET, "call", "get", 1), *HEAD, SEEN[1], "  edit", *PART, *PART)
        self.raises("Amid", None, *HEAD, SEEN[0], "  edit", *PART, *PART, SEEN[3])

    def test_too_many_moments(self):
        rows = ["  call - a x 0", "  answer - a 0", "  call - b x 0"]
        journal = Keeper(DRAWERS).journal
        self.assertEqual(len(read_journal(text_of(journal, *rows)).moments), 64)
        self.raises("TooMany", 4000, journal, *rows, "  answer - b 0", "  call - b x 0")

    def test_what_goes_together_only_all_at_once(self):
        till = Part(2, SYSTEM.part("till").text.replace("get it", "buy it"))
        shop = Part(2, SHOP.text.replace("door get", "door buy"))
        pact = read_pact(2, "state 0\n  buy any -> any 0, lost 0")
        keeper = Keeper(SYSTEM)
        keeper.edit(parts=(("shop", shop), ("till", till)), pacts=((GET, pact),))
        keeper.see(PAID[0])
        keeper.see((GET, "call", "buy", 1))
        keeper.see(answered(GET, 1))
        self.assertEqual(standing(read_journal(keeper.journal)), standing(keeper))


if __name__ == "__main__":
    unittest.main()
