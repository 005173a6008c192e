import unittest
from itertools import permutations, product

from tests.helping import ODD_VALUES, exactly, told
from tests.test_pacts import FOUR, FREE, ONCE, WRONG_PACTS, ring
from truestandins.pacts import is_pact
from truestandins.pacttexts import read_pact, show_pact


def bad(text, worths=2):
    """The number that BadText tells of a text (or of its lines), None if it is right."""
    text = text if isinstance(text, str) else "\n".join(text)
    found = told(lambda: read_pact(worths, text))
    return found[1] if found[0] == "BadText" else None


def read_row(text, worths=2):
    """The rows of the state 0 that has this line below it, or the error."""
    found = told(lambda: read_pact(worths, "state 0\n  " + text + "\nstate 1"))
    return found if found[0] == "BadText" else found[0]


class Examples(unittest.TestCase):
    def test_as_they_stand(self):
        self.assertEqual(FREE, ((("get", 0, ((-1, 0), (0, 0), (1, 0))), ("get", 1, ((-1, 0), (0, 0), (1, 0)))),))
        self.assertEqual(ONCE, ((("get", 0, ((0, 1),)), ("get", 1, ((1, 1),))),
                                (("get", 0, ((-1, 1),)), ("get", 1, ((-1, 1),)))))
        self.assertEqual(show_pact(FREE), "state 0\n  get 0 -> 0 0, 1 0, lost 0\n  get 1 -> 0 0, 1 0, lost 0")


class Show(unittest.TestCase):
    def test_states_and_rows(self):
        pact = ((("b", 1, ((0, 2),)), ("c", 0, ((1, 1),))), (), (("a", 3, ((3, 0),)),))
        self.assertEqual(show_pact(pact), "state 0\n  b 1 -> 0 2\n  c 0 -> 1 1\nstate 1\nstate 2\n  a 3 -> 3 0")
        self.assertEqual(show_pact(((),)), "state 0")

    def test_worths_go_ahead_of_lost_and_this_of_busy(self):
        pact = ((("x", 0, ((-2, 0), (-1, 1), (0, 2), (1, 3), (2, 4), (3, 5))),),) + ((),) * 5
        self.assertEqual(show_pact(pact).split("\n")[1], "  x 0 -> 0 2, 1 3, 2 4, 3 5, lost 1, busy 0")
        self.assertEqual(show_pact(((("x", 0, ((-2, 0), (-1, 0))),),)), "state 0\n  x 0 -> lost 0, busy 0")
        self.assertEqual(show_pact(((("x", 0, ((-2, 0), (1, 0))),),)), "state 0\n  x 0 -> 1 0, busy 0")

    def test_wrong_values(self):
        for value in WRONG_PACTS:
            self.assertEqual(exactly(told(lambda: show_pact(value))), exactly(("BadPact", value)))

    def test_what_is_shown_is_read(self):
        pacts = [FREE, ONCE, ring(400, (3, 77)), ring(12, leave=(4, 5)), ((),), ((),) * 400]
        pacts.append(((("any", 0, ((0, 0),)),),))
        for pact in pacts[:-1]:
            self.assertEqual(read_pact(4, show_pact(pact)), pact)
            self.assertTrue(is_pact(2, pact))
        self.assertEqual(told(lambda: show_pact(pacts[-1])), ("BadPact", pacts[-1]))
        self.assertEqual(read_pact(text=show_pact(pact=FOUR), worths=4), FOUR)


class Read(unittest.TestCase):
    def test_rows_and_outcomes_in_any_sequence(self):
        rows = ["  a 0 -> 0 0", "  a 1 -> 1 0", "  b 0 -> 0 0"]
        wanted = read_pact(2, "\n".join(["state 0"] + rows))
        self.assertEqual(wanted, ((("a", 0, ((0, 0),)), ("a", 1, ((1, 0),)), ("b", 0, ((0, 0),))),))
        for mixed in permutations(rows):
            self.assertEqual(read_pact(2, "\n".join(("state 0",) + mixed)), wanted)
        for mixed in permutations(("busy 1", "lost 0", "0 1", "1 0")):
            self.assertEqual(read_row("a 0 -> " + ", ".join(mixed)), (("a", 0, ((-2, 1), (-1, 0), (0, 1), (1, 0))),))

    def test_any_for_the_worth_of_a_call(self):
        for worths in (2, 3, 4):
            self.assertEqual(read_row("a any -> 1 1", worths),
                             tuple(("a", worth, ((1, 1),)) for worth in range(worths)))

    def test_any_for_an_answer(self):
        for worths in (2, 3, 4):
            outcomes = tuple((worth, 1) for worth in range(worths))
            self.assertEqual(read_row("a 0 -> any 1", worths), (("a", 0, outcomes),))
            self.assertEqual(read_row("a 0 -> busy 0, any 1, lost 0", worths),
                             (("a", 0, ((-2, 0), (-1, 0)) + outcomes),))

    def test_any_for_both(self):
        self.assertEqual(read_row("a any -> any 0, lost 1"),
                         (("a", 0, ((-1, 1), (0, 0), (1, 0))), ("a", 1, ((-1, 1), (0, 0), (1, 0)))))

    def test_worths_bound_numbers(self):
        for worths, number in product((2, 3, 4), range(6)):
            self.assertEqual(read_row(f"a {number} -> 0 0", worths) == ("BadText", 1), number >= worths)
            self.assertEqual(read_row(f"a 0 -> {number} 0", worths) == ("BadText", 1), number >= worths)

    def test_next_states_that_stand_further_below(self):
        text = "state 0\n  a 0 -> 0 2\nstate 1\nstate 2\n  a 0 -> 0 0, 1 1"
        self.assertEqual(read_pact(2, text), ((("a", 0, ((0, 2),)),), (), (("a", 0, ((0, 0), (1, 1))),)))

    def test_names_may_be_like_words_of_lines(self):
        for name in ("state", "lost", "busy"):
            self.assertEqual(read_row(f"{name} 0 -> 0 1"), ((name, 0, ((0, 1),)),))

    def test_the_bound_of_states(self):
        rows = [f"state {number}" for number in range(401)]
        self.assertEqual(len(read_pact(2, "\n".join(rows[:400]))), 400)
        self.assertEqual(bad(rows), 400)
        self.assertEqual(bad(rows + ["state 401"]), 400)
        rows[0] += "\n  a 0 -> 0 399"
        self.assertEqual(read_pact(2, "\n".join(rows[:400]))[0], (("a", 0, ((0, 399),)),))
        self.assertEqual(bad("\n".join(rows)), 401)
        rows[0] = "state 0\n  a 0 -> 0 400"
        self.assertEqual(bad("\n".join(rows)), 1)
        rows[0] = "state 0\n  a 0 -> 0 399"
        self.assertEqual(bad("\n".join(rows[:399])), 1)


class Wrong(unittest.TestCase):
    def test_worths(self):
        for value in ODD_VALUES + (0, 1, -2, "2"):
            for text in ("state 0", "", None):
                self.assertEqual(exactly(told(lambda: read_pact(value, text))), exactly(("BadWorths", value)))

    def test_no_string(self):
        for value in ODD_VALUES + (b"state 0", ("state 0",)):
            if not isinstance(value, str):
                self.assertEqual(told(lambda: read_pact(2, value)), ("BadText", -1))

    def test_lines_of_states(self):
        for row in ("", "state", "state 1", "state 00", "state 0 0", "State 0", "states 0", "state  0", "state 0 ",
                    " state 0", "  state 0", "0", "state -0", "state any", "a 0 -> 0 0", "  a 0 -> 0 0", "state\t0",
                    "state 0\r", "state \u0660"):
            self.assertEqual(bad([row]), 0, row)
        for row in ("state", "state 0", "state 2", "state 01", "state 1 1", "State 1", " state 1", "   state 1",
                    "state  1", "state 1 ", "a 0 -> 0 0", "", " ", "  ", "  state 1", "    a 0 -> 0 0"):
            self.assertEqual(bad(["state 0", row]), 1, row)
            self.assertEqual(bad(["state 0", "  a 0 -> 0 0", row]), 2, row)

    def test_lines_of_rows(self):
        for row in ("a", "a 0", "a 0 ->", "a 0 -> ", "a 0 -> 0", "a 0 -> 0 0,", "a 0 -> 0 0, ", "a 0 -> 0 0 1 0",
                    "a 0 -> 0 0,1 0", "a 0 -> 0 0 , 1 0", "a 0 -> 0 0, 1", "a 0 -> ,", "a 0 -> , 0 0", "a 0 -> 0, 0",
                    "a 0 = 0 0", "a 0 > 0 0", "a -> 0 0", "0 -> 0 0", "a 0 0 0", "a 0 0 -> 0 0", "a a 0 -> 0 0",
                    "a 0 -> 0 0;", "a  0 -> 0 0", "a 0  -> 0 0", "a 0 ->  0 0", "a 0 -> 0  0", "a 0 -> 0 0 ",
                    "a 0 -> 0 0,  1 0", "a 0 -> 0 0 0", "a 0 -> -> 0 0", " a 0 -> 0 0", "a 0->0 0"):
            self.assertEqual(read_row(row), ("BadText", 1), row)

    def test_words_of_rows(self):
        for door in ("any", "A", "abcdefghi", "a1", "0", "\u00e9", "a-b"):
            self.assertEqual(read_row(f"{door} 0 -> 0 0"), ("BadText", 1), door)
        for worth in ("2", "00", "-1", "+0", "lost", "busy", "a", "Any", "\u0660", "9" * 5000, "any,"):
            self.assertEqual(read_row(f"a {worth} -> 0 0"), ("BadText", 1), worth)
        for answer in ("2", "00", "-1", "-2", "+0", "Lost", "Any", "a", "\u0660", "loss", "9" * 5000):
            self.assertEqual(read_row(f"a 0 -> {answer} 0"), ("BadText", 1), answer)
            self.assertEqual(read_row(f"a 0 -> 0 0, {answer} 0"), ("BadText", 1), answer)
        for later in ("2", "00", "01", "-1", "+0", "any", "a", "\u0660", "9" * 5000, "399", "lost"):
            self.assertEqual(read_row(f"a 0 -> 0 {later}"), ("BadText", 1), later)
            self.assertEqual(read_row(f"a 0 -> 0 0, 1 {later}"), ("BadText", 1), later)

    def test_rows_that_stand_already(self):
        for one, other in (("0", "0"), ("any", "0"), ("any", "1"), ("0", "any"), ("1", "any"), ("any", "any")):
            self.assertEqual(bad(["state 0", f"  a {one} -> 0 0", "  b 0 -> 0 0", f"  a {other} -> 1 0"]), 3)
        self.assertIsNone(bad(["state 0", "  a 0 -> 0 0", "  a 1 -> 0 0", "  b any -> 0 0"]))
        self.assertIsNone(bad(["state 0", "  a 0 -> 0 0", "state 1", "  a 0 -> 0 0"]))

    def test_answers_that_stand_already(self):
        for outcomes in ("0 0, 0 0", "0 0, 0 1", "any 0, 0 0", "1 0, any 0", "lost 0, lost 0", "busy 0, 0 0, busy 1",
                         "any 0, any 0", "any 0, lost 0, 1 1"):
            self.assertEqual(read_row("a 0 -> " + outcomes), ("BadText", 1), outcomes)
        self.assertEqual(len(read_row("a 0 -> any 0, lost 0, busy 0")[0][2]), 4)

    def test_next_states_that_there_are_not(self):
        self.assertEqual(bad(["state 0", "  a 0 -> 0 1"]), 1)
        self.assertEqual(bad(["state 0", "  a 0 -> 0 0", "  b 0 -> 0 2", "state 1"]), 2)
        self.assertEqual(bad(["state 0", "  a 0 -> any 2, lost 0", "state 1", "  a 0 -> 0 0"]), 1)

    def test_how_many_states_are_told_whatever_stands_between(self):
        self.assertEqual(bad(["state 0", "  a 0 -> 0 1", "nothing", "state 1"]), 2)
        self.assertEqual(bad(["state 0", "  a 0 -> 0 1", "", "state 1"]), 2)
        self.assertEqual(bad(["state 0", "  a 0 -> 0 1", "state 2", "state 1"]), 2)
        self.assertEqual(bad(["state 0", "  a 0 -> 0 2", "state 2", "state 1"]), 1)
        self.assertEqual(bad(["state 0", "  a 0 -> 0 1", "state 2"]), 1)
        self.assertEqual(bad(["state 0", "  a 0 -> 0 1", "  state 1"]), 1)
        self.assertEqual(bad(["state 0", "  a 0 -> 0 1", " state 1"]), 1)
        self.assertEqual(bad(["state 0", "  a 0 -> 0 1", "state 1 "]), 1)
        self.assertEqual(bad(["state 0", "  a 0 -> 0 1", "state 0", "state 1"]), 2)

    def test_lines_that_are_missing(self):
        self.assertEqual(bad(""), 0)
        self.assertEqual(bad("\n"), 0)
        self.assertEqual(bad("state 0\n"), 1)
        self.assertEqual(bad("state 0\n  a 0 -> 0 0\n"), 2)
        self.assertEqual(bad("state 0\n\nstate 1"), 1)

    def test_the_first_of_several(self):
        self.assertEqual(bad(["state 0", "  a 0 -> 9 0", "  a 0 -> 0 9", "state 5"]), 1)
        self.assertEqual(bad(["state 0", "  a 0 -> 1 0", "  a 1 -> 0 9", "state 5"]), 2)
        self.assertEqual(bad(["state 0", "  a 0 -> 1 0", "  a 1 -> 0 0", "state 5"]), 3)


if __name__ == "__main__":
    unittest.main()
