import unittest
from itertools import product

from tests.helping import ODD_VALUES, exactly, told
from tests.plainstandins import PlainStandIn, random_stand_ins
from truestandins.pacts import behind, first_more, is_pact, least_pact
from truestandins.pacttexts import read_pact, show_pact
from truestandins.standins import pact_of

DOORS = ("get", "put")


def pact(text, worths=2):
    return pact_of(worths, DOORS, text)


def plain_words(text, worths, doors, length):
    """All words of at most so many letters that come by the plain stand-in."""
    stand_in, level, found = PlainStandIn(text), [((), ())], []
    for _ in range(length):
        fresh = []
        for word, taken in level:
            for door, worth in product(doors, range(worths)):
                behind_call = stand_in.call(taken, door, worth)
                if behind_call:
                    fresh.append((word + ((door, worth, behind_call[0]),), behind_call[1]))
        level = fresh
        found += [word for word, _ in level]
    return found


def words_let(let, length):
    """All words of at most so many letters that a pact lets."""
    level, found = [((), 0)], []
    for _ in range(length):
        level = [(word + ((door, worth, answer),), later) for word, at in level
                 for door, worth, outcomes in let[at] for answer, later in outcomes]
        found += [word for word, _ in level]
    return found


class PactOf(unittest.TestCase):
    def same(self, text, shown):
        self.assertEqual(show_pact(pact(text)), shown)

    def test_once(self):
        self.same("get 0 once -> 1", "state 0\n  get 0 -> 1 1\nstate 1")

    def test_twice(self):
        self.same("get 0 twice -> 1", "state 0\n  get 0 -> 1 1\nstate 1\n  get 0 -> 1 2\nstate 2")

    def test_often(self):
        self.same("get 0 often -> 1", "state 0\n  get 0 -> 1 0")

    def test_any_worth(self):
        self.same("get any once -> busy", "state 0\n  get 0 -> busy 1\n  get 1 -> busy 1\nstate 1")

    def test_several_answers_behind_the_last_one_the_last_again(self):
        self.same("get 0 often -> 1, lost, 0", "state 0\n  get 0 -> 1 1\nstate 1\n  get 0 -> lost 2\nstate 2\n  get 0 -> 0 2")
        self.same("get 0 twice -> 1", "state 0\n  get 0 -> 1 1\nstate 1\n  get 0 -> 1 2\nstate 2")
        # A row that may be used once gives its first answer alone.
        self.same("get 0 once -> 1, 0", "state 0\n  get 0 -> 1 1\nstate 1")

    def test_else(self):
        self.same("get 0 once -> 1\nelse lost", "state 0\n  get 0 -> 1 1\n  get 1 -> lost 0\n  put 0 -> lost 0\n  put 1 -> lost 0\n"
                  "state 1\n  get 0 -> lost 1\n  get 1 -> lost 1\n  put 0 -> lost 1\n  put 1 -> lost 1")

    def test_without_order_the_first_row_that_can_be_used_once_more(self):
        self.same("get 0 once -> 1\nget any often -> 0", "state 0\n  get 0 -> 1 1\n  get 1 -> 0 0\nstate 1\n  get 0 -> 0 1\n"
                  "  get 1 -> 0 1")
        self.same("get any often -> 0\nget 0 once -> 1", "state 0\n  get 0 -> 0 0\n  get 1 -> 0 0")
        self.same("put 0 once -> 0\nget 0 once -> 1", "state 0\n  get 0 -> 1 1\n  put 0 -> 0 2\nstate 1\n  put 0 -> 0 3\nstate 2\n"
                  "  get 0 -> 1 3\nstate 3")

    def test_in_order(self):
        self.same("in order\nput 0 once -> 0\nget 0 once -> 1", "state 0\n  put 0 -> 0 1\nstate 1\n  get 0 -> 1 2\nstate 2")
        # What has not to be used may be left out, and never comes again then.
        self.same("in order\nput 0 often -> 0\nget 0 twice -> 1", "state 0\n  get 0 -> 1 1\n  put 0 -> 0 0\nstate 1\n"
                  "  get 0 -> 1 2\nstate 2")
        self.same("in order\nput 0 twice -> 0\nget 0 once -> 1\nelse busy", "\n".join([
            "state 0", "  get 0 -> busy 0", "  get 1 -> busy 0", "  put 0 -> 0 1", "  put 1 -> busy 0",
            "state 1", "  get 0 -> busy 1", "  get 1 -> busy 1", "  put 0 -> 0 2", "  put 1 -> busy 1",
            "state 2", "  get 0 -> 1 3", "  get 1 -> busy 2", "  put 0 -> busy 2", "  put 1 -> busy 2",
            "state 3", "  get 0 -> busy 3", "  get 1 -> busy 3", "  put 0 -> busy 3", "  put 1 -> busy 3"]))

    def test_in_order_the_place_itself_may_be_used_further(self):
        self.same("in order\nget 0 often -> 0\nget 1 often -> 1", "state 0\n  get 0 -> 0 0\n  get 1 -> 1 1\nstate 1\n  get 1 -> 1 1")

    def test_rows_may_be_alike(self):
        self.same("get 0 once -> 1\nget 0 once -> 1", "state 0\n  get 0 -> 1 1\nstate 1\n  get 0 -> 1 2\nstate 2")
        self.same("in order\nget 0 once -> 1\nget 0 once -> 0", "state 0\n  get 0 -> 1 1\nstate 1\n  get 0 -> 0 2\nstate 2")

    def test_doors_with_names_like_words(self):
        found = pact_of(2, ("else", "in"), "in order\nelse 0 once -> 1\nin 1 once -> 0\nelse 1")
        self.assertEqual(behind(found, (("in", 1, 1), ("else", 0, 1), ("in", 1, 0))), 2)

    def test_doors_that_no_row_tells(self):
        self.assertEqual(pact_of(2, ("get",), "get 0 once -> 1"), pact_of(2, ("get", "put"), "get 0 once -> 1"))
        self.assertEqual(len(pact_of(2, ("a", "get"), "get any often -> 1\nelse 0")[0]), 4)

    def test_worths(self):
        for worths in (2, 3, 4):
            found = pact_of(worths, ("get",), "get any often -> 1")
            self.assertEqual(found, (tuple(("get", worth, ((1, 0),)) for worth in range(worths)),))

    def test_the_greatest(self):
        text = "in order\n" + "\n".join(["get 0 often -> 0, 1, lost", "get 1 often -> 0, 1, lost", "put 0 often -> 0, 1, lost",
                                         "put 1 often -> 0, 1, lost"])
        found = pact(text)
        self.assertEqual((is_pact(2, found), least_pact(found)), (True, found))
        self.assertEqual(sorted(words_let(found, 4)), sorted(plain_words(text, 2, DOORS, 4)))
        free = pact(text.replace("in order\n", ""))
        self.assertEqual((is_pact(2, free), least_pact(free), len(free)), (True, free, 81))

    def test_many(self):
        greatest = 0
        for text in random_stand_ins(400):
            found = pact(text)
            self.assertTrue(is_pact(2, found))
            self.assertEqual(least_pact(found), found, text)
            self.assertEqual(sorted(words_let(found, 4)), sorted(plain_words(text, 2, DOORS, 4)), text)
            greatest = max(greatest, len(found))
        self.assertGreater(greatest, 30)

    def test_each_call_has_one_answer(self):
        for text in random_stand_ins(50):
            self.assertEqual(set(len(outcomes) for state in pact(text) for _, _, outcomes in state) - {1}, set())

    def test_with_else_there_is_no_surprise(self):
        free = read_pact(2, "state 0\n  get any -> any 0, lost 0, busy 0\n  put any -> any 0, lost 0, busy 0")
        for text in random_stand_ins(100):
            found = pact(text)
            self.assertIsNone(first_more(found, free))
            self.assertEqual(all(len(state) == 4 for state in found) or "else" not in text, True)

    def test_arguments_by_name(self):
        self.assertEqual(pact_of(text="get 0 once -> 1", doors=DOORS, worths=3), pact_of(3, DOORS, "get 0 once -> 1"))


class Errors(unittest.TestCase):
    def bad(self, line, text, doors=DOORS, worths=2):
        self.assertEqual(told(lambda: pact_of(worths, doors, text)), ("BadText", line), text)

    def test_worths_first_then_doors_then_text(self):
        for value in ODD_VALUES + (1, 5, "2"):
            self.assertEqual(exactly(told(lambda: pact_of(value, None, None))), exactly(("BadWorths", value)))
        for value in ODD_VALUES:
            if value not in ((), ("call",)):
                self.assertEqual(exactly(told(lambda: pact_of(2, value, None))), exactly(("BadDoors", value)))
            if not isinstance(value, str):
                self.assertEqual(told(lambda: pact_of(2, DOORS, value)), ("BadText", -1))
        for value in ("get", ["get"], ("put", "get"), ("get", "get"), ("any",), ("Get",), ("",), ("get", 1), ("getgetget",),
                      ("get", ("put",)), ("a", "any"), {"get": True}, (None,), (True,), ("g t",)):
            self.assertEqual(exactly(told(lambda: pact_of(2, value, "get 0 once -> 1"))), exactly(("BadDoors", value)))

    def test_none_at_all(self):
        self.bad(0, "get 0 once -> 1", doors=())
        self.bad(1, "in order\nget 0 once -> 1", doors=())
        self.bad(0, "", doors=())
        self.assertEqual(told(lambda: pact_of(2, (), None)), ("BadText", -1))

    def test_bad_rows(self):
        for row in ("get 0 once 1", "get 0 once ->", "get 0 once -> ", "get 0 -> 1", "get once -> 1", "get 0 thrice -> 1",
                    "get 0 Once -> 1", "get 2 once -> 1", "get -1 once -> 1", "get 00 once -> 1", "get lost once -> 1",
                    "got 0 once -> 1", "any 0 once -> 1", "Get 0 once -> 1", "get 0 once -> 2", "get 0 once -> any",
                    "get 0 once -> 1,0", "get 0 once -> 1 , 0", "get 0 once -> 1, 0, 1, 0", "get 0 once -> 1, ", "get 0 once -> 1,",
                    "get 0 once -> 1, 2", "get 0 once -> 1, Lost", "get  0 once -> 1", " get 0 once -> 1", "get 0 once -> 1 ",
                    "get 0 once => 1", "get 0 once -> 1 0", "get 0 0 once -> 1", "", "get", "  get 0 once -> 1", "else",
                    "else 0 0", "in order", "get 0 once -> -1", "get 0 once -> 01", "get 0", "other 0", "elsewhere 0"):
            self.bad(0 if row != "in order" else 1, row)
            self.bad(1, "in order\n" + row)
            self.bad(1, "get 0 once -> 1\n" + row)
            self.bad(1, "get 0 once -> 1\n" + row + "\nget 9 once -> 1")
            self.bad(3, "get 0 once -> 1\nget 0 once -> 1\nput any often -> 0, busy, lost\n" + row)

    def test_how_many_rows(self):
        row = "get 0 once -> 1"
        for many in range(1, 5):
            self.assertTrue(is_pact(2, pact("\n".join([row] * many))))
        self.bad(4, "\n".join([row] * 5))
        self.bad(5, "in order\n" + "\n".join([row] * 5))
        self.bad(4, "\n".join([row] * 6))

    def test_else(self):
        self.bad(0, "else 0")
        self.bad(1, "in order\nelse 0")
        for word in ("2", "any", "-1", "00", "Lost", "0,", "all"):
            self.bad(1, f"get 0 once -> 1\nelse {word}")
        self.bad(2, "get 0 once -> 1\nelse 0\nelse 0")
        self.bad(2, "get 0 once -> 1\nelse 0\nget 0 once -> 1")
        self.bad(2, "get 0 once -> 1\nelse 0\n")
        self.bad(1, "get 0 once -> 1\n  else 0")
        self.assertEqual(len(pact("get 0 once -> 1\nelse busy")), 2)

    def test_order(self):
        self.bad(1, "in order")
        self.bad(0, "in  order\nget 0 once -> 1")
        self.bad(0, "in\nget 0 once -> 1")
        self.bad(0, "in order \nget 0 once -> 1")
        self.bad(1, "get 0 once -> 1\nin order")
        self.bad(1, "in order\nin order\nget 0 once -> 1")

    def test_a_worth_too_great(self):
        for text in ("get 2 once -> 1", "get 0 once -> 2", "get 0 once -> 1, 2"):
            self.bad(0, text)
            self.bad(1, "put 0 often -> 0\n" + text)
            self.assertTrue(pact(text, 3))
        self.bad(1, "get 0 once -> 1\nelse 3", worths=3)
        self.bad(0, "get 4 once -> 1", worths=4)

    def test_of_several_bad_lines_the_first(self):
        self.bad(1, "get 0 once -> 1\nget 2 once -> 1\ngot 0 once -> 1")
        self.bad(1, "get 0 once -> 1\ngot 0 once -> 1\nget 2 once -> 1")
        self.bad(0, "got 0 once -> 1\nget 2 once -> 1\n\n\n")


if __name__ == "__main__":
    unittest.main()
