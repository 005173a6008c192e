"""Texts that are none of a part: the number of the very line."""

import unittest

from tests.helping import ODD_VALUES, told
from truestandins.parts import Part

HEAD = ["cell a 0", "port p", "door x"]


def bad(rows, worths=2):
    """The number that BadText tells of the lines, None if they are right."""
    found = told(lambda: Part(worths, "\n".join(rows)))
    return found[1] if isinstance(found, tuple) and found[0] == "BadText" else None


def fault_of_statement(row):
    """The number of the statement's line by its head if it is bad, as the first and as the second one."""
    return bad(HEAD + [row, "  fail"]), bad(HEAD + ["  fail", row, "  fail"])


class NoString(unittest.TestCase):
    def test_minus_one(self):
        for value in ODD_VALUES + (b"door x\n  fail", ("door x", "  fail")):
            if not isinstance(value, str):
                self.assertEqual(told(lambda: Part(2, value)), ("BadText", -1))


class Statements(unittest.TestCase):
    def test_right_ones(self):
        for row in ("set a 0", "set a 1", "set a a", "set a it", "set a got", "add a 1", "add a a", "add a it",
                    "add a got", "draw a", "ask p x 0", "ask p other 1", "ask p x a", "ask p x it", "ask p x got",
                    "answer 0", "answer a", "answer it", "answer got", "fail"):
            self.assertEqual(fault_of_statement("  " + row), (None, None), row)

    def test_wrong_forms(self):
        for row in ("set", "set a", "set a 0 0", "add", "add a", "add a 1 1", "draw", "draw a 0", "ask", "ask p",
                    "ask p x", "ask p x 0 0", "answer", "answer 0 0", "fail 0", "sets a 0", "Set a 0", "nothing",
                    "set p x 0", "add p x 0", "draw p x 0", "answer p x it", "fail p x 0", "asks p x 0", "p x 0",
                    "cell b 0", "port q", "door y", "set a = 0", "answer lost", "answer busy", "answer -1", "a"):
            self.assertEqual(fault_of_statement("  " + row), (3, 4), row)

    def test_cells_that_there_are_not(self):
        for row in ("set b 0", "add b 0", "draw b", "set it 0", "set got 0", "draw it", "set 0 a", "draw 0", "set p 0",
                    "set x 0", "set a b", "add a b", "ask p x b", "answer b", "answer p", "answer x", "set a lost"):
            self.assertEqual(fault_of_statement("  " + row), (3, 4), row)

    def test_ports_that_there_are_not(self):
        for row in ("ask q x 0", "ask a x 0", "ask x x 0", "ask any x 0"):
            self.assertEqual(fault_of_statement("  " + row), (3, 4), row)

    def test_numbers(self):
        for word in ("00", "01", "+1", "-1", "-0", "2", "9", "1.", "1.0", "0x0", "\u0661", "\u00b2", "1_0", "1e0", "",
                     "10", "1" * 5000):
            self.assertEqual(bad([f"cell b {word}", "door x", "  fail"]), 0, word)
            self.assertEqual(fault_of_statement("  answer " + word), (3, 4), word)
            self.assertEqual(fault_of_statement("  set a " + word), (3, 4), word)

    def test_lines_of_cells_ports_and_doors(self):
        for row in ("cell", "cell b", "cell b 0 0", "cell b it", "cell b a", "cells b 0", "Cell b 0", "cell b lost"):
            self.assertEqual(bad(["cell a 0", row, "door x", "  fail"]), 1, row)
        for row in ("port", "port q q", "ports q", "Port q"):
            self.assertEqual(bad(["cell a 0", "port p", row, "door x", "  fail"]), 2, row)
        for row in ("door", "door y y", "doors y", "Door y", "else", "fail"):
            self.assertEqual(bad(["door x", "  fail", row, "  fail"]), 2, row)
            self.assertEqual(bad([row, "  fail"]), 0, row)

    def test_their_sequence(self):
        self.assertEqual(bad(["port p", "cell a 0", "door x", "  fail"]), 1)
        self.assertEqual(bad(["door x", "  fail", "cell a 0"]), 2)
        self.assertEqual(bad(["door x", "  fail", "port p"]), 2)
        self.assertEqual(bad(["cell a 0", "door x", "  fail", "port p", "door y", "  fail"]), 3)


class Conditions(unittest.TestCase):
    def test_right_ones(self):
        for test in ("lost", "busy", "a = 0", "0 = a", "a != 1", "it = got", "got != it", "a = a", "1 = 1", "it != 0"):
            self.assertIsNone(bad(HEAD + ["  if " + test, "    fail"]), test)
            self.assertIsNone(bad(HEAD + ["  while " + test, "    ask p x 0"]), test)

    def test_wrong_ones(self):
        for test in ("", "a", "it", "got", "lost busy", "lost = 1", "busy = 0", "a = lost", "a == 0", "a ! = 0", "a 0",
                     "a =", "= a", "a = 2", "2 = a", "a = b", "b = a", "a = 0 0", "a < 1", "not lost", "a != 00",
                     "a = x", "p = 0", "!= 0 0", "fail"):
            self.assertEqual(fault_of_statement("  if " + test), (3, 4), test)
            self.assertEqual(bad(HEAD + ["  while " + test, "    ask p x 0"]), 3, test)


class Blocks(unittest.TestCase):
    def test_a_while_begins_with_an_ask(self):
        for row in ("fail", "set a 0", "draw a", "answer 0", "if lost", "while lost", "add a 1", "else"):
            self.assertEqual(bad(HEAD + ["  while lost", "    " + row, "    ask p x 0"]), 4, row)
        self.assertIsNone(bad(HEAD + ["  while lost", "    ask p x 0", "    fail"]))
        self.assertEqual(bad(HEAD + ["  if lost", "    while lost", "      fail"]), 5)

    def test_an_else_stands_behind_an_if_as_deep(self):
        right = ["  if lost", "    fail", "  else", "    fail"]
        self.assertIsNone(bad(HEAD + right))
        self.assertEqual(bad(HEAD + ["  else", "    fail"]), 3)
        self.assertEqual(bad(HEAD + ["  fail", "  else", "    fail"]), 4)
        self.assertEqual(bad(HEAD + right + ["  else", "    fail"]), 7)
        self.assertEqual(bad(HEAD + ["  while lost", "    ask p x 0", "  else", "    fail"]), 5)
        self.assertEqual(bad(HEAD + ["  if lost", "    fail", "  fail", "  else", "    fail"]), 6)
        self.assertEqual(bad(HEAD + ["  if lost", "    fail", "    else", "      fail"]), 5)
        self.assertEqual(bad(HEAD + ["  if lost", "    fail", "else", "  fail"]), 5)
        self.assertEqual(bad(HEAD + ["  if lost", "    fail", "  else 0", "    fail"]), 5)
        self.assertEqual(bad(HEAD + ["  if lost", "    fail", "  else if lost", "    fail"]), 5)

    def test_an_else_goes_with_the_if_that_is_as_deep(self):
        inner = ["  if lost", "    if busy", "      fail"]
        self.assertIsNone(bad(HEAD + inner + ["    else", "      fail", "  else", "    fail"]))
        self.assertIsNone(bad(HEAD + inner + ["  else", "    fail"]))
        self.assertEqual(bad(HEAD + inner + ["  else", "    fail", "    else", "      fail"]), 8)

    def test_lines_that_are_missing(self):
        for head in (["  if lost"], ["  while lost"], ["  if lost", "    fail", "  else"]):
            at = len(HEAD + head)
            self.assertEqual(bad(HEAD + head), at)
            self.assertEqual(bad(HEAD + head + ["  fail"]), at)
            self.assertEqual(bad(HEAD + head + ["door y", "  fail"]), at)
            self.assertEqual(bad(HEAD + head + [""]), at)

    def test_lines_that_are_missing_of_doors(self):
        self.assertEqual(bad(["door x"]), 1)
        self.assertEqual(bad(["door x", "door y", "  fail"]), 1)
        self.assertEqual(bad(["door x", "  fail", "door y"]), 3)
        self.assertEqual(bad(["cell a 0"]), 1)
        self.assertEqual(bad(["cell a 0", "port p", "port q"]), 3)
        self.assertEqual(bad(["cell a 0", "  fail"]), 1)

    def test_the_first_of_several(self):
        self.assertEqual(bad(["door x", "  answer 7", "door x", "door any"]), 1)
        self.assertEqual(bad(["door x", "  answer 1", "door x", "  answer 7"]), 2)
        self.assertEqual(bad(["cell a 9", "cell a 0", ""]), 0)
        self.assertEqual(bad(["door x", "  fail", "", "  answer 7"]), 2)


class Blanks(unittest.TestCase):
    def test_empty_lines(self):
        self.assertEqual(bad([""]), 0)
        self.assertEqual(bad(["", "door x", "  fail"]), 0)
        self.assertEqual(bad(["door x", "", "  fail"]), 1)
        self.assertEqual(bad(["door x", "  fail", ""]), 2)
        self.assertEqual(bad(["door x", "  fail", "", "door y", "  fail"]), 2)
        self.assertEqual(bad(["door x", "  "]), 1)
        self.assertEqual(bad(["door x", "  fail", "  "]), 2)
        self.assertEqual(bad(["door x", "  fail", "    "]), 2)

    def test_words_are_parted_by_one_blank(self):
        right = ["cell a 0", "port p", "door x", "  if a = 0", "    ask p x it", "  else", "    fail"]
        self.assertIsNone(bad(right))
        for at, row in enumerate(right):
            deep = len(row) - len(row.lstrip())
            for wrong in (row + " ", row + "\t", row + "\r", row[:deep] + row[deep:].replace(" ", "  ") + "  ",
                          row[:deep] + row[deep:].replace(" ", "\t") + "\t", "\t" + row, row + "\x0b", row + "\u00a0"):
                self.assertEqual(bad(right[:at] + [wrong] + right[at + 1:]), at, wrong)
        for at in (0, 1, 2, 3, 4):
            deep = len(right[at]) - len(right[at].lstrip())
            wrong = right[at][:deep] + right[at][deep:].replace(" ", "  ")
            self.assertEqual(bad(right[:at] + [wrong] + right[at + 1:]), at, wrong)

    def test_other_ends_of_lines_part_nothing(self):
        for end in ("\r\n", "\r", "\x0b", "\x0c", "\u2028", "\x1e", "\x85"):
            self.assertEqual(told(lambda: Part(2, f"door x{end}  fail")), ("BadText", 0), end)

    def test_depths(self):
        for at in range(3):
            for blanks in (1, 2, 3):
                rows = ["cell a 0", "port p", "door x", "  fail"]
                rows[at] = " " * blanks + rows[at]
                self.assertEqual(bad(rows), at)
        for blanks in (0, 1, 3, 4):
            self.assertEqual(bad(["door x", " " * blanks + "fail"]), 1)
            self.assertEqual(bad(["door x", "  fail", " " * blanks + "fail"]), 2)
        for blanks in (0, 1, 2, 3, 5, 6):
            self.assertEqual(bad(["door x", "  if lost", " " * blanks + "fail"]), 2)
        for blanks in (0, 1, 3, 5, 6):
            self.assertEqual(bad(["door x", "  if lost", "    fail", " " * blanks + "fail"]), 3)
        for blanks in (1, 2, 3, 4):
            self.assertEqual(bad(["door x", "  fail", " " * blanks + "door y", "  fail"]), 2)


if __name__ == "__main__":
    unittest.main()
