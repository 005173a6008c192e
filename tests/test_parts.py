import unittest

from tests.helping import ODD_VALUES, told
from truestandins.inners import answered, called, first_inner
from truestandins.parts import Part

TILL = "port shop\ndoor pay\n  ask shop get it\n  if lost\n    fail\n  answer got"


def bad(worths, text):
    return told(lambda: Part(worths, text))


def lines(*rows):
    return "\n".join(rows)


class Examples(unittest.TestCase):
    def test_the_till(self):
        till = Part(2, TILL)
        self.assertEqual(
            [called(till, first_inner(till), "pay", 1), answered(till, ((), (2, 1)), -2),
             called(till, ((), (2, 1)), "pay", 0)],
            [((("asks", "shop", "get", 1), ((), (2, 1))),), ((("gives", 0), ((), ())),),
             ((("gives", -2), ((), (2, 1))),)])

    def test_the_dice(self):
        dice = Part(2, "cell n 0\ndoor throw\n  draw n\n  if n = it\n    fail\n  answer 1")
        self.assertEqual(called(dice, ((0,), ()), "throw", 0),
                         ((("gives", -1), ((0,), ())), (("gives", 1), ((1,), ()))))


class Properties(unittest.TestCase):
    def test_they_tell_what_was_read(self):
        text = lines("cell b 1", "cell a 2", "port z", "port y", "door run", "  fail", "door go", "  fail")
        part = Part(3, text)
        self.assertEqual(part.worths, 3)
        self.assertEqual(part.text, text)
        self.assertEqual(part.cells, (("b", 1), ("a", 2)))
        self.assertEqual(part.ports, ("z", "y"))
        self.assertEqual(part.doors, ("run", "go"))

    def test_they_are_set_on_the_object(self):
        part = Part(3, "door a\n  fail")
        for name in ("worths", "text", "cells", "ports", "doors"):
            self.assertTrue(hasattr(part, name))
        self.assertEqual([part.cells, part.ports, part.doors], [(), (), ("a",)])

    def test_arguments_by_name(self):
        self.assertEqual(Part(text="door a\n  fail", worths=4).worths, 4)

    def test_the_first_inner_has_the_worths_of_the_cells(self):
        self.assertEqual(first_inner(Part(4, "cell b 3\ncell a 0\ncell c 1\ndoor x\n  fail")), ((3, 0, 1), ()))
        self.assertEqual(first_inner(part=Part(4, "door x\n  fail")), ((), ()))


class Equality(unittest.TestCase):
    def test_by_worths_and_text(self):
        self.assertTrue(Part(2, TILL) == Part(2, TILL))
        self.assertFalse(Part(2, TILL) != Part(2, TILL))
        self.assertFalse(Part(2, TILL) == Part(3, TILL))
        self.assertTrue(Part(2, TILL) != Part(3, TILL))
        self.assertFalse(Part(2, TILL) == Part(2, TILL.replace("fail", "answer 0")))

    def test_parts_that_do_alike_by_other_texts_are_not_equal(self):
        self.assertFalse(Part(2, "door a\n  answer 0") == Part(2, "door a\n  answer 0\n  fail"))

    def test_nothing_else_is_equal(self):
        for value in ODD_VALUES + (TILL, (2, TILL), [2, TILL], {"worths": 2, "text": TILL}):
            self.assertFalse(Part(2, TILL) == value)
            self.assertTrue(Part(2, TILL) != value)


class Worths(unittest.TestCase):
    def test_two_three_and_four(self):
        for worths in (2, 3, 4):
            self.assertEqual(Part(worths, "door a\n  fail").worths, worths)

    def test_nothing_else(self):
        for value in ODD_VALUES + (1, 0, 5, -2, "2", (2,), [2]):
            self.assertEqual(repr(bad(value, "door a\n  fail")), repr(("BadWorths", value)))

    def test_they_go_ahead_of_the_text(self):
        self.assertEqual(bad(1, ""), ("BadWorths", 1))
        self.assertEqual(bad(None, 7), ("BadWorths", None))
        self.assertEqual(bad(True, None), ("BadWorths", True))

    def test_numbers_in_the_text_are_below_them(self):
        for worths in (2, 3, 4):
            for worth in range(6):
                text = f"cell a {worth}\ndoor x\n  answer {worth}"
                if worth < worths:
                    self.assertEqual(Part(worths, text).cells, (("a", worth),))
                else:
                    self.assertEqual(bad(worths, text), ("BadText", 0))
                    self.assertEqual(bad(worths, f"door x\n  answer {worth}"), ("BadText", 1))


class Names(unittest.TestCase):
    def test_of_one_to_eight_letters(self):
        for name in ("a", "z", "abcdefgh", "zzzzzzzz"):
            text = f"cell {name} 0\nport {name}\ndoor {name}\n  set {name} it\n  ask {name} {name} {name}"
            part = Part(2, text)
            self.assertEqual([part.cells, part.ports, part.doors], [((name, 0),), (name,), (name,)])

    def test_nothing_else_is_one(self):
        for name in ("abcdefghi", "A", "aB", "a1", "1", "a_b", "a-b", "\u00e9", "\u0430", "a\t", "", "a\r", "."):
            self.assertEqual(bad(2, f"cell {name} 0\ndoor x\n  fail"), ("BadText", 0), name)
            self.assertEqual(bad(2, f"port {name}\ndoor x\n  fail"), ("BadText", 0), name)
            self.assertEqual(bad(2, f"door {name}\n  fail"), ("BadText", 0), name)
            self.assertEqual(bad(2, f"port p\ndoor x\n  ask p {name} 0"), ("BadText", 2), name)

    def test_no_door_is_called_any(self):
        self.assertEqual(bad(2, "door any\n  fail"), ("BadText", 0))
        self.assertEqual(bad(2, "port p\ndoor x\n  ask p any 0"), ("BadText", 2))
        part = Part(2, "cell any 0\nport any\ndoor x\n  set any 1\n  ask any x any")
        self.assertEqual([part.cells, part.ports], [(("any", 0),), ("any",)])

    def test_cells_are_not_called_as_words_of_sources_and_conditions(self):
        for name in ("it", "got", "lost", "busy"):
            self.assertEqual(bad(2, f"cell a 0\ncell {name} 0\ndoor x\n  fail"), ("BadText", 1))
            part = Part(2, f"port {name}\ndoor {name}\n  ask {name} {name} it")
            self.assertEqual([part.ports, part.doors], [(name,), (name,)])

    def test_names_may_be_like_words_that_begin_lines(self):
        for name in ("cell", "port", "door", "set", "add", "draw", "ask", "answer", "fail", "if", "else", "while"):
            text = lines(f"cell {name} 1", f"port {name}", f"door {name}", f"  set {name} {name}",
                         f"  add {name} it", f"  if {name} = {name}", f"    ask {name} {name} {name}",
                         "  else", f"    draw {name}", f"  answer {name}")
            part = Part(2, text)
            self.assertEqual(called(part, first_inner(part), name, 0),
                             ((("asks", name, name, 1), ((1,), (6, 0))),))

    def test_names_stand_once(self):
        self.assertEqual(bad(2, "cell a 0\ncell a 1\ndoor x\n  fail"), ("BadText", 1))
        self.assertEqual(bad(2, "port a\nport a\ndoor x\n  fail"), ("BadText", 1))
        self.assertEqual(bad(2, "door x\n  fail\ndoor x\n  fail"), ("BadText", 2))
        self.assertEqual(bad(2, "door x\n  fail\ndoor y\n  fail\ndoor x\n  fail"), ("BadText", 4))
        self.assertEqual(Part(2, "cell a 0\nport a\ndoor a\n  fail").doors, ("a",))


class Bounds(unittest.TestCase):
    def test_cells(self):
        rows = [f"cell {name} 0" for name in "abcd"]
        self.assertEqual(len(Part(2, lines(*rows[:3], "door x", "  fail")).cells), 3)
        self.assertEqual(bad(2, lines(*rows, "door x", "  fail")), ("BadText", 3))

    def test_ports(self):
        rows = [f"port {name}" for name in "abc"]
        self.assertEqual(len(Part(2, lines(*rows[:2], "door x", "  fail")).ports), 2)
        self.assertEqual(bad(2, lines(*rows, "door x", "  fail")), ("BadText", 2))

    def test_doors(self):
        rows = [row for name in "abcd" for row in (f"door {name}", "  fail")]
        self.assertEqual(len(Part(2, lines(*rows[:6])).doors), 3)
        self.assertEqual(bad(2, lines(*rows)), ("BadText", 6))

    def test_statements_below_a_door(self):
        self.assertEqual(Part(2, lines("door x", *["  fail"] * 8)).doors, ("x",))
        self.assertEqual(bad(2, lines("door x", *["  fail"] * 9)), ("BadText", 9))

    def test_statements_below_an_if(self):
        head = ("door x", "  if lost")
        self.assertEqual(Part(2, lines(*head, *["    fail"] * 8, "  fail")).doors, ("x",))
        self.assertEqual(bad(2, lines(*head, *["    fail"] * 9)), ("BadText", 10))

    def test_statements_below_an_else(self):
        head = ("door x", "  if lost", "    fail", "  else")
        self.assertEqual(Part(2, lines(*head, *["    fail"] * 8, "  fail")).doors, ("x",))
        self.assertEqual(bad(2, lines(*head, *["    fail"] * 9)), ("BadText", 12))

    def test_statements_below_a_while(self):
        head = ("port p", "door x", "  while lost", "    ask p x 0")
        self.assertEqual(Part(2, lines(*head, *["    fail"] * 7, "  fail")).doors, ("x",))
        self.assertEqual(bad(2, lines(*head, *["    fail"] * 8)), ("BadText", 11))

    def test_else_is_no_statement_of_its_block(self):
        pair = ("  if lost", "    fail", "  else", "    fail")
        self.assertEqual(Part(2, lines("door x", *pair * 8)).doors, ("x",))
        self.assertEqual(bad(2, lines("door x", *pair * 8, "  fail")), ("BadText", 33))

    def test_statements_in_all(self):
        rows = [row for name in "abc" for row in (f"door {name}", *["  fail"] * 8)]
        self.assertEqual(Part(2, lines(*rows)).doors, ("a", "b", "c"))
        nested = ["door a", "  if lost", *["    fail"] * 7, "door b", *["  fail"] * 8]
        self.assertEqual(Part(2, lines(*nested, "door c", *["  fail"] * 8)).doors, ("a", "b", "c"))
        more = ["door a", "  if lost", *["    fail"] * 8, "door b", *["  fail"] * 8, "door c"]
        self.assertEqual(Part(2, lines(*more, *["  fail"] * 7)).doors, ("a", "b", "c"))
        self.assertEqual(bad(2, lines(*more, *["  fail"] * 8)), ("BadText", 27))

    def test_the_one_that_is_too_much_may_be_any_statement(self):
        full = ["port p", "door a", *["  fail"] * 8, "door b", *["  fail"] * 8, "door c", *["  fail"] * 7]
        for last in ("  fail", "  if lost\n    fail", "  while lost\n    ask p x 0"):
            self.assertEqual(bad(2, lines(*full, last)) == ("BadText", 28), "\n" in last, last)
        self.assertEqual(bad(2, lines(*full[:-1], "  if lost", "    fail", "    fail")), ("BadText", 28))
        self.assertEqual(bad(2, lines(*full[:-1], "  if lost", "    fail", "  else", "    fail")), ("BadText", 29))

    def test_else_is_no_statement_of_the_part(self):
        pair = ("  if lost", "    fail", "  else", "    fail")
        rows = ("door a", *pair * 8)
        self.assertEqual(Part(2, lines(*rows)).doors, ("a",))
        self.assertEqual(bad(2, lines(*rows, "door b", "  fail")), ("BadText", 34))

    def test_three_deep(self):
        text = lines("door x", "  if lost", "    if busy", "      fail", "    else", "      fail", "  fail")
        self.assertEqual(Part(2, text).doors, ("x",))
        for word in ("if", "while"):
            text = lines("door x", "  if lost", "    if busy", f"      {word} lost", "        fail")
            self.assertEqual(bad(2, text), ("BadText", 3))
        text = lines("port p", "door x", "  if lost", "    fail", "  else", "    while busy", "      ask p x 0",
                     "      if lost", "        fail")
        self.assertEqual(bad(2, text), ("BadText", 7))
        text = lines("port p", "door x", "  while lost", "    ask p x 0", "    while busy", "      ask p x 0")
        self.assertEqual(Part(2, text).doors, ("x",))


if __name__ == "__main__":
    unittest.main()
