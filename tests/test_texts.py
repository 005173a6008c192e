import unittest
from random import Random
from re import fullmatch

from tests.helping import ODD_VALUES, exactly, told
from tests.manysystems import random_system
from tests.test_keeping import GET, PAY, RING, SYSTEM, TIGHT, with_truths
from truestandins.keeping import keeps
from truestandins.texts import read_run, show_run
from truestandins.wholes import whole

LINES = (
    ((PAY, "call", "pay", 1), "call - till pay 1"), ((GET, "call", "get", 0), "call till shop get 0"),
    ((GET, "answer", -2), "answer till shop busy"), ((GET, "answer", -1), "answer till shop lost"),
    ((GET, "answer", 3), "answer till shop 3"), ((PAY, "answer", 0), "answer - till 0"),
    ((("", "a"), "call", "abcdefgh", 3), "call - a abcdefgh 3"), ((("call", "answer"), "call", "lost", 2), "call call answer lost 2"),
    ((("any", "any"), "answer", -1), "answer any any lost"),
)


class Examples(unittest.TestCase):
    def test_as_they_stand(self):
        run = ((("", "till"), "call", "pay", 1), (("till", "shop"), "answer", -2))
        self.assertEqual([show_run(run), read_run(show_run(run)) == run], ["call - till pay 1\nanswer till shop busy", True])


class Runs(unittest.TestCase):
    def test_each_kind_of_event(self):
        for event, line in LINES:
            self.assertEqual(show_run((event,)), line)
            self.assertEqual(read_run(line), (event,))

    def test_of_no_event(self):
        self.assertEqual((show_run(()), read_run("")), ("", ()))

    def test_of_several(self):
        run = tuple(event for event, _ in LINES)
        self.assertEqual(show_run(run), "\n".join(line for _, line in LINES))
        self.assertEqual(read_run(show_run(run)), run)
        self.assertEqual(show_run(run=run), read_run_text(run))
        self.assertEqual(read_run(text=show_run(run)), run)

    def test_what_is_told_is_read_back(self):
        for run in (keeps(TIGHT, "shop")[1], whole(TIGHT)[1]):
            self.assertEqual(exactly(read_run(show_run(run))), exactly(run))
        for seed in range(60):
            system = random_system(seed)
            for word, run in [keeps(system, name) for name in system.parts] + [whole(system)]:
                if word in ("breaks", "broken"):
                    self.assertEqual(exactly(read_run(show_run(run))), exactly(run))

    def test_drawn_ones(self):
        draw = Random(3)
        names = ["a", "till", "any", "abcdefgh", "call", "lost"]
        doors = ["a", "pay", "busy", "lost", "answer"]
        for _ in range(100):
            run = []
            for _ in range(draw.randint(0, 6)):
                wire = (draw.choice(names + [""]), draw.choice(names))
                run.append(draw.choice([(wire, "call", draw.choice(doors), draw.randrange(4)), (wire, "answer", draw.randint(-2, 3))]))
            self.assertEqual(exactly(read_run(show_run(tuple(run)))), exactly(tuple(run)))


def read_run_text(run):
    return "\n".join(dict(LINES)[event] for event in run)


class BadRuns(unittest.TestCase):
    def bad(self, value):
        self.assertEqual(exactly(told(lambda: show_run(value))), exactly(("BadRun", value)))

    def test_any_value(self):
        right = tuple(event for event, _ in LINES)
        for value in ODD_VALUES:
            if value != ():
                self.bad(value)
            self.bad((value,))
            self.bad(right + (value,))
            self.bad((value,) + right)
        self.bad(list(right))
        self.bad(right[0])

    def test_any_value_in_each_place(self):
        right = 0
        for event, _ in LINES:
            others = [event[:at] + (value,) + event[at + 1:] for at in range(len(event)) for value in ODD_VALUES + (0, -2, "any", "lost")]
            wires = [event[0][:at] + (value,) + event[0][at + 1:] for at in (0, 1) for value in ODD_VALUES + ("-", "any")]
            for other in others + [(wire,) + event[1:] for wire in wires]:
                if is_event(other):
                    self.assertEqual(exactly(read_run(show_run((other,)))), exactly((other,)))
                    right += 1
                else:
                    self.bad((other,))
        self.assertGreater(right, 30)

    def test_by_their_form(self):
        for event in ((PAY, "call", "pay", 4), (PAY, "call", "pay", -1), (PAY, "call", "any", 0), (PAY, "call", "Pay", 0),
                      (PAY, "call", "pay"), (PAY, "call", "pay", 0, 0), (PAY, "answer", 4), (PAY, "answer", -3), (PAY, "answer", "lost"),
                      (PAY, "answer"), (PAY, "answer", 0, 0), (PAY, "asks", "pay", 0), (PAY, "gives", 0), ("till", "call", "pay", 0),
                      (("till",), "call", "pay", 0), (("", ""), "call", "pay", 0), (("till", ""), "call", "pay", 0),
                      (("-", "till"), "call", "pay", 0), (("", "toolongname"), "answer", 0), ((None, "till"), "answer", 0),
                      (("", "till", "pay"), "answer", 0), ["call"], ("exchange",), [PAY, "call", "pay", 0], (["", "till"], "answer", 0),
                      (PAY, "call", "pay", "0"), (PAY, "call", 0, "pay"), (PAY, "Call", "pay", 0), ()):
            self.bad((event,))
            self.bad(((PAY, "call", "pay", 1), event))

    def test_truths_in_the_places_of_numbers(self):
        run = ((PAY, "call", "pay", 1), (PAY, "answer", 0))
        others = list(with_truths(run))
        self.assertEqual(len(others), 2)
        for other in others:
            self.bad(other)


def is_event(value):
    """Whether any value is an event by its form, told by the kinds of its items."""
    if type(value) is not tuple or len(value) not in (3, 4) or type(value[0]) is not tuple or len(value[0]) != 2:
        return False
    user, port = value[0]
    if not (user == "" or is_name(user)) or not is_name(port):
        return False
    if len(value) == 3:
        return value[1] == "answer" and type(value[2]) is int and -2 <= value[2] <= 3
    return value[1] == "call" and is_name(value[2]) and value[2] != "any" and type(value[3]) is int and 0 <= value[3] <= 3


def is_name(value):
    return type(value) is str and fullmatch("[a-z]{1,8}", value) is not None


class BadTexts(unittest.TestCase):
    def bad(self, line, text):
        self.assertEqual(told(lambda: read_run(text)), ("BadText", line), text)

    def test_no_string(self):
        for value in ODD_VALUES:
            if not isinstance(value, str):
                self.bad(-1, value)

    def test_each_line(self):
        right = "call - till pay 1"
        for row in ("call - till pay", "call - till pay 4", "call - till pay -1", "call - till pay any", "call - till pay 01", "call - till any 0",
                    "call - till Pay 0", "call till pay 0", "call - - pay 0", "call till - pay 0", "call  - till pay 0", " call - till pay 0",
                    "call - till pay 0 ", "call - till pay 0 0", "answer - till", "answer - till 4", "answer - till -1", "answer - till Lost",
                    "answer - till any", "answer - till lost 0", "answer till 0", "answer - Till 0", "", "-", "call", "answer", "asks - till pay 0",
                    "gives - till 0", "exchange", "call - till pay lost", "  call - till pay 0", "call -  pay 0", "call \u00e9 till pay 0",
                    "Call - till pay 0", "call - toolongname pay 0"):
            if row:
                self.bad(0, row)
            self.bad(1, f"{right}\n{row}")
            self.bad(1, f"{right}\n{row}\n{right}")
            self.bad(0, f"{row}\n{row}")
        self.bad(0, "\n")
        self.bad(0, "\n" + right)


if __name__ == "__main__":
    unittest.main()
