import unittest
from itertools import product
from random import Random

from tests.helping import ODD_VALUES, exactly, told
from tests.plainparts import plain_answered, plain_called
from truestandins.inners import answered, called, first_inner
from truestandins.parts import Part


def part_of(worths, *statements, cells=("a 0",), ports=("p",)):
    """A part with one door x of these statements."""
    head = ["cell " + cell for cell in cells] + ["port " + port for port in ports]
    return Part(worths, "\n".join(head + ["door x"] + ["  " + row for row in statements]))


def run(part, cells, it):
    return called(part, (cells, ()), "x", it)


def gives(answer, *cells):
    return ("gives", answer), (cells, ())


class Statements(unittest.TestCase):
    def test_set_writes_worths(self):
        self.assertEqual(run(part_of(3, "set a 2", "answer 1"), (0,), 0), (gives(1, 2),))
        self.assertEqual(run(part_of(3, "set a it", "answer a"), (0,), 2), (gives(2, 2),))
        self.assertEqual(run(part_of(3, "set a b", "answer a", cells=("a 0", "b 0")), (0, 1), 2), (gives(1, 1, 1),))
        self.assertEqual(run(part_of(3, "set a got", "answer a"), (2,), 2), (gives(0, 0),))

    def test_set_writes_just_its_cell(self):
        part = part_of(2, "set b 1", cells=("a 0", "b 0", "c 0"))
        self.assertEqual(run(part, (0, 0, 0), 0), (gives(0, 0, 1, 0),))

    def test_add_goes_round(self):
        for worths in (2, 3, 4):
            part = part_of(worths, "add a it", "answer a")
            for worth, it in product(range(worths), repeat=2):
                total = (worth + it) % worths
                self.assertEqual(run(part, (worth,), it), (gives(total, total),))

    def test_add_of_itself_and_of_others(self):
        self.assertEqual(run(part_of(4, "add a a", "answer a"), (3,), 0), (gives(2, 2),))
        self.assertEqual(run(part_of(4, "add a 3", "add a 3", "answer a"), (0,), 0), (gives(2, 2),))
        self.assertEqual(run(part_of(3, "add b a", cells=("a 0", "b 0")), (2, 2), 0), (gives(0, 2, 1),))

    def test_draw_writes_any_worth(self):
        for worths in (2, 3, 4):
            found = run(part_of(worths, "draw a", "answer a"), (1,), 0)
            self.assertEqual(found, tuple(gives(worth, worth) for worth in range(worths)))

    def test_draws_that_come_to_the_same_stand_once(self):
        self.assertEqual(run(part_of(4, "draw a", "set a 1"), (0,), 0), (gives(0, 1),))
        self.assertEqual(run(part_of(2, "draw a", "add a a", "draw a", "answer a"), (0,), 0), (gives(0, 0), gives(1, 1)))

    def test_what_is_drawn_comes_ascending(self):
        part = part_of(2, "draw b", "draw a", "if a = b", "  fail", "ask p x a", cells=("a 0", "b 0"))
        self.assertEqual(run(part, (1, 1), 0), (
            (("asks", "p", "x", 0), ((0, 1), (8, 0))), (("asks", "p", "x", 1), ((1, 0), (8, 0))),
            gives(-1, 0, 0), gives(-1, 1, 1)))

    def test_the_deed_goes_ahead_of_the_inner(self):
        part = part_of(3, "draw a", "if a = 0", "  answer 2", "if a = 1", "  answer 1", "fail")
        self.assertEqual(run(part, (0,), 0), (gives(-1, 2), gives(1, 1), gives(2, 0)))

    def test_many_draws(self):
        part = part_of(4, *["draw a", "draw b", "draw c", "draw a", "add a b", "draw b", "draw c", "answer a"],
                       cells=("a 0", "b 0", "c 0"))
        self.assertEqual(run(part, (0, 0, 0), 0),
                         tuple(gives(cells[0], *cells) for cells in product(range(4), repeat=3)))

    def test_ask_waits(self):
        part = part_of(3, "ask p other a", "ask q x it", ports=("p", "q"))
        self.assertEqual(run(part, (2,), 1), ((("asks", "p", "other", 2), ((2,), (4, 1))),))
        for answer in (-2, -1, 0, 1, 2):
            self.assertEqual(answered(part, ((2,), (4, 1)), answer), ((("asks", "q", "x", 1), ((2,), (5, 1))),))

    def test_ask_with_every_source(self):
        for word, worth in (("0", 0), ("1", 1), ("a", 2), ("it", 1), ("got", 0)):
            self.assertEqual(run(part_of(3, "ask p x " + word), (2,), 1), ((("asks", "p", "x", worth), ((2,), (3, 1))),))

    def test_answer_with_every_source_ends(self):
        for word, worth in (("0", 0), ("1", 1), ("a", 2), ("it", 1), ("got", 0)):
            self.assertEqual(run(part_of(3, "answer " + word, "set a 0", "fail"), (2,), 1), (gives(worth, 2),))

    def test_fail_answers_lost_and_ends(self):
        self.assertEqual(run(part_of(2, "fail", "set a 0", "answer 0"), (1,), 1), (gives(-1, 1),))

    def test_behind_the_last_statement_zero_is_answered(self):
        self.assertEqual(run(part_of(3, "set a 2"), (1,), 1), (gives(0, 2),))
        self.assertEqual(run(part_of(3, "if it = 0", "  fail"), (1,), 1), (gives(0, 1),))
        part = part_of(3, "ask p x 0")
        self.assertEqual(answered(part, ((1,), (3, 1)), 2), (gives(0, 1),))

    def test_each_door_has_its_own_statements(self):
        part = Part(2, "cell n 0\ndoor a\n  add n 1\ndoor b\n  answer n\ndoor c\n  fail")
        inner = ((1,), ())
        self.assertEqual(called(part, inner, "a", 0), (gives(0, 0),))
        self.assertEqual(called(part, inner, "b", 0), (gives(1, 1),))
        self.assertEqual(called(part, inner, "c", 0), (gives(-1, 1),))


class Conditions(unittest.TestCase):
    def test_alike_or_not(self):
        for worths in (2, 4):
            for sign in ("=", "!="):
                part = part_of(worths, f"if a {sign} it", "  answer 1")
                for worth, it in product(range(worths), repeat=2):
                    holds = (worth == it) == (sign == "=")
                    self.assertEqual(run(part, (worth,), it), (gives(1 if holds else 0, worth),))

    def test_else(self):
        part = part_of(2, "if it = 1", "  set a 1", "else", "  set a 0", "answer a")
        self.assertEqual(run(part, (0,), 1), (gives(1, 1),))
        self.assertEqual(run(part, (1,), 0), (gives(0, 0),))

    def test_else_of_the_right_if(self):
        rows = ("if a = 0", "  if it = 0", "    answer 1", "  else", "    answer 2", "else", "  if it = 0",
                "    answer 3", "answer 0")
        part = part_of(4, *rows)
        told_answers = [run(part, (a,), it)[0][0][1] for a in (0, 1) for it in (0, 1)]
        self.assertEqual(told_answers, [1, 2, 3, 0])

    def test_an_if_in_an_if_without_else(self):
        part = part_of(4, "if a = 0", "  if it = 0", "    answer 1", "else", "  answer 2", "answer 3")
        self.assertEqual([run(part, (a,), it)[0][0][1] for a in (0, 1) for it in (0, 1)], [1, 3, 2, 2])

    def test_ahead_of_any_ask(self):
        self.assertEqual(run(part_of(2, "if lost", "  answer 1"), (0,), 1), (gives(0, 0),))
        self.assertEqual(run(part_of(2, "if busy", "  answer 1"), (0,), 1), (gives(0, 0),))
        self.assertEqual(run(part_of(2, "if got = 0", "  answer 1"), (0,), 1), (gives(1, 0),))

    def test_behind_an_ask(self):
        rows = ("ask p x 0", "if lost", "  set a 1", "if busy", "  set a 2", "answer got")
        part = part_of(4, *rows, cells=("a 0",))
        for answer, cell in ((-2, 2), (-1, 1), (0, 0), (1, 0), (2, 0), (3, 0)):
            self.assertEqual(answered(part, ((0,), (3, 0)), answer), (gives(max(answer, 0), cell),))

    def test_of_the_last_ask_alone(self):
        part = part_of(4, "ask p x 0", "ask p x got", "if lost", "  fail", "if busy", "  answer 3", "answer got")
        self.assertEqual(answered(part, ((0,), (3, 0)), 2), ((("asks", "p", "x", 2), ((0,), (4, 0))),))
        self.assertEqual(answered(part, ((0,), (3, 0)), -1), ((("asks", "p", "x", 0), ((0,), (4, 0))),))
        self.assertEqual([answered(part, ((0,), (4, 0)), answer)[0][0][1] for answer in (-2, -1, 0, 1)], [3, -1, 0, 1])

    def test_of_this_handling_alone(self):
        part = Part(2, "port p\ndoor x\n  if lost\n    answer 1\n  ask p x 0\n  answer got")
        self.assertEqual(answered(part, ((), (4, 0)), -1), (gives(0),))
        self.assertEqual(called(part, ((), ()), "x", 1), ((("asks", "p", "x", 0), ((), (4, 1))),))

    def test_it_stays_over_an_ask(self):
        part = part_of(4, "ask p x 0", "add a it", "answer it")
        for it in range(4):
            self.assertEqual(answered(part, ((1,), (3, it)), -1), (gives(it, (1 + it) % 4),))


class Whiles(unittest.TestCase):
    rows = ("while a != 0", "  ask p x a", "  if lost", "    fail", "  add a got", "answer it")

    def test_it_goes_round(self):
        part = part_of(3, *self.rows)
        self.assertEqual(run(part, (2,), 1), ((("asks", "p", "x", 2), ((2,), (4, 1))),))
        self.assertEqual(answered(part, ((2,), (4, 1)), 2), ((("asks", "p", "x", 1), ((1,), (4, 1))),))
        self.assertEqual(answered(part, ((1,), (4, 1)), 0), ((("asks", "p", "x", 1), ((1,), (4, 1))),))
        self.assertEqual(answered(part, ((1,), (4, 1)), -2), ((("asks", "p", "x", 1), ((1,), (4, 1))),))

    def test_it_ends(self):
        part = part_of(3, *self.rows)
        self.assertEqual(run(part, (0,), 1), (gives(1, 0),))
        self.assertEqual(answered(part, ((1,), (4, 2)), 2), (gives(2, 0),))
        self.assertEqual(answered(part, ((1,), (4, 2)), -1), (gives(-1, 1),))

    def test_while_lost_or_busy(self):
        part = part_of(2, "ask p x 0", "while lost", "  ask p x 1", "while busy", "  ask p x 0", "answer got")
        self.assertEqual(answered(part, ((0,), (3, 0)), -1), ((("asks", "p", "x", 1), ((0,), (5, 0))),))
        self.assertEqual(answered(part, ((0,), (5, 0)), -1), ((("asks", "p", "x", 1), ((0,), (5, 0))),))
        self.assertEqual(answered(part, ((0,), (5, 0)), -2), ((("asks", "p", "x", 0), ((0,), (7, 0))),))
        self.assertEqual(answered(part, ((0,), (7, 0)), -2), ((("asks", "p", "x", 0), ((0,), (7, 0))),))
        self.assertEqual(answered(part, ((0,), (7, 0)), -1), (gives(0, 0),))
        self.assertEqual(answered(part, ((0,), (7, 0)), 1), (gives(1, 0),))

    def test_draws_in_a_while(self):
        part = part_of(2, "while it = it", "  ask p x a", "  draw a", "  if a = got", "    answer a")
        self.assertEqual(answered(part, ((0,), (4, 0)), 1), ((("asks", "p", "x", 0), ((0,), (4, 0))), gives(1, 1)))

    def test_one_in_another(self):
        part = part_of(2, "while a = 0", "  ask p x 0", "  while got = 1", "    ask p x 1", "  if lost", "    set a 1",
                       "answer got")
        self.assertEqual(answered(part, ((0,), (4, 0)), 1), ((("asks", "p", "x", 1), ((0,), (6, 0))),))
        self.assertEqual(answered(part, ((0,), (6, 0)), 0), ((("asks", "p", "x", 0), ((0,), (4, 0))),))
        self.assertEqual(answered(part, ((0,), (6, 0)), -1), (gives(0, 1),))

    def test_an_ask_in_each_kind_of_block(self):
        part = part_of(2, "if it = 0", "  ask p x 0", "  set a got", "else", "  ask p x 1", "  add a got", "answer a")
        self.assertEqual(answered(part, ((1,), (4, 0)), 0), (gives(0, 0),))
        self.assertEqual(answered(part, ((1,), (7, 0)), 0), (gives(1, 1),))


def some_block(random, depth, left):
    """Lines of statements that stand so deep, by chance; left counts how many there may be yet."""
    rows = []
    for _ in range(random.randrange(1, 4)):
        words = ["set a E", "add b E", "draw a", "draw b", "ask p x E", "ask q y E", "ask p y E", "answer E", "fail"]
        words += ["if C", "while C"] * 4 if depth < 3 and left[0] > 5 else []
        row = random.choice(words)
        left[0] -= 1
        row = row.replace("C", random.choice(("lost", "busy", "E = E", "E != E", "it = E", "a != E", "got = E")))
        for _ in range(row.count("E")):
            row = row.replace("E", random.choice(("a", "b", "it", "got", "0", "1")), 1)
        rows.append("  " * depth + row)
        if row.startswith("while"):
            rows.append("  " * depth + "  ask p x a")
            left[0] -= 1
        if row.startswith(("if", "while")):
            rows += some_block(random, depth + 1, left)
        if row.startswith("if") and left[0] > 3 and random.randrange(2):
            rows += ["  " * depth + "else"] + some_block(random, depth + 1, left)
        if left[0] <= 3:
            break
    return rows


class Plainly(unittest.TestCase):
    def test_all_inners_of_many_parts(self):
        random = Random(5)
        asks = 0
        for _ in range(250):
            worths, left = random.randrange(2, 4), [22]
            rows = ["cell a 0", "cell b 1", "port p", "port q", "door x"] + some_block(random, 1, left)
            if left[0] > 8:
                rows += ["door y"] + some_block(random, 1, left)
            part = Part(worths, "\n".join(rows))
            for cells, it in product(product(range(worths), repeat=2), range(worths)):
                for door in part.doors:
                    self.assertEqual(called(part, (cells, ()), door, it), plain_called(part, (cells, ()), door, it), rows)
                for line in (line for line, row in enumerate(rows) if row.strip().startswith("ask")):
                    asks += 1
                    for answer in range(-2, worths):
                        inner = (cells, (line, it))
                        self.assertEqual(answered(part, inner, answer), plain_answered(part, inner, answer), rows)
        self.assertGreater(asks, 1000)


class Busy(unittest.TestCase):
    part = Part(2, "cell a 0\nport p\ndoor x\n  ask p x 0\ndoor y\n  set a 1\n  fail")

    def test_who_waits_answers_busy_and_stays(self):
        for a, it, door, worth in product((0, 1), (0, 1), "xy", (0, 1)):
            inner = ((a,), (3, it))
            self.assertEqual(called(self.part, inner, door, worth), ((("gives", -2), inner),))

    def test_who_does_not_wait_goes_on(self):
        self.assertEqual(called(self.part, ((0,), ()), "y", 0), (gives(-1, 1),))


class Wrong(unittest.TestCase):
    part = Part(3, "cell a 0\ncell b 0\nport p\ndoor x\n  if it = 0\n    ask p x 0\n  answer 2\ndoor y\n  ask p y 0")
    still = ((0, 2), ())
    waits = ((2, 1), (5, 0))
    bad_inners = (
        ((0,), ()), ((0, 0, 0), ()), ((0, 3), ()), ((-1, 0), ()), ((0, True), ()), ((False, 0), ()), ((0, None), ()),
        ([0, 0], ()), ((0, 0), []), ((0, 0), None), ((0, 0), False), ((0, 0),), ((0, 0), (), ()), [(0, 0), ()],
        ((), ()), (0, 0), ((0, 0), (4, 0)), ((0, 0), (6, 0)), ((0, 0), (3, 0)), ((0, 0), (9, 0)), ((0, 0), (5, 3)),
        ((0, 0), (5, -1)), ((0, 0), (5, True)), ((0, 0), (5,)), ((0, 0), (5, 0, 0)), ((0, 0), [5, 0]),
        ((0, 0), (-4, 0)), ((0, 0), ("5", 0)), ((0, 0), (None, 0)), ((0, 0), ([5], 0)), ((0, 0), ({}, 0)),
        ((0, "0"), ()), (("0", 0), ()), ((0, (0,)), ()), ("00", ()), ((0, [0]), ()), ((0, {}), ()), ((0, 0), "ab"),
    ) + ODD_VALUES

    def error(self, call):
        return exactly(told(call))

    def test_inners_of_called(self):
        for value in self.bad_inners:
            self.assertEqual(self.error(lambda: called(self.part, value, "x", 0)), exactly(("BadInner", value)))

    def test_inners_of_answered(self):
        for value in self.bad_inners + (self.still, first_inner(self.part)):
            self.assertEqual(self.error(lambda: answered(self.part, value, 0)), exactly(("BadInner", value)))

    def test_a_truth_is_no_line(self):
        part = Part(2, "door w\n  fail")
        self.assertEqual(told(lambda: called(part, ((), (0, 0)), "w", 0)), ("BadInner", ((), (0, 0))))
        part = Part(2, "port p\ndoor x\n  ask p x 0")
        self.assertEqual(answered(part, ((), (2, 0)), 0), (gives(0),))
        self.assertEqual(self.error(lambda: answered(part, ((), (True, 0)), 0)), exactly(("BadInner", ((), (True, 0)))))

    def test_calls(self):
        for inner in (self.still, self.waits):
            for door in ("z", "any", "", "p", "X", "x ") + ODD_VALUES:
                call = (door, 0)
                self.assertEqual(self.error(lambda: called(self.part, inner, door, 0)), exactly(("BadCall", call)))
            for worth in (-1, 3, 4, "0", (0,)) + ODD_VALUES:
                call = ("x", worth)
                self.assertEqual(self.error(lambda: called(self.part, inner, "x", worth)), exactly(("BadCall", call)))
            self.assertEqual(told(lambda: called(self.part, inner, [], {})), ("BadCall", ([], {})))

    def test_answers(self):
        for value in (-3, 3, 4, "0", "lost", (0,)) + ODD_VALUES:
            self.assertEqual(self.error(lambda: answered(self.part, self.waits, value)), exactly(("BadAnswer", value)))
        for answer in (-2, -1, 0, 1, 2):
            self.assertEqual(answered(self.part, self.waits, answer), (gives(2, 2, 1),))

    def test_the_first_error_that_is_due(self):
        self.assertEqual(told(lambda: called(self.part, None, None, None)), ("BadInner", None))
        self.assertEqual(told(lambda: called(self.part, [], "z", 9)), ("BadInner", []))
        self.assertEqual(told(lambda: answered(self.part, {}, "no")), ("BadInner", {}))
        self.assertEqual(told(lambda: answered(self.part, self.still, "no")), ("BadInner", self.still))

    def test_inners_that_never_come(self):
        part = Part(2, "cell a 0\nport p\ndoor x\n  answer 1\n  ask p x 0\n  answer a")
        self.assertEqual(called(part, ((1,), ()), "x", 0), (gives(1, 1),))
        self.assertEqual(answered(part, ((1,), (4, 1)), 0), (gives(1, 1),))

    def test_arguments_stay_as_they_were(self):
        inner, worths = [[0, 0], []], {"x": [1]}
        told(lambda: called(self.part, inner, worths, [inner]))
        told(lambda: answered(self.part, inner, worths))
        self.assertEqual([inner, worths], [[[0, 0], []], {"x": [1]}])
        part = Part(2, "cell a 0\ndoor x\n  add a 1\n  answer a")
        self.assertEqual([run(part, (0,), 0), run(part, (0,), 0)], [(gives(1, 1),), (gives(1, 1),)])
        self.assertEqual(part, Part(2, part.text))
        self.assertEqual(first_inner(part), ((0,), ()))

    def test_arguments_by_name(self):
        self.assertEqual(called(worth=1, door="x", inner=self.still, part=self.part), (gives(2, 0, 2),))
        self.assertEqual(answered(answer=1, inner=self.waits, part=self.part), (gives(2, 2, 1),))

    def test_what_is_returned_are_tuples(self):
        for found in (called(self.part, self.still, "x", 1), called(self.part, self.waits, "x", 1),
                      answered(self.part, self.waits, 0)):
            self.assertIsInstance(found, tuple)
            self.assertEqual(exactly(found), exactly(tuple(sorted(set(found)))))


if __name__ == "__main__":
    unittest.main()
