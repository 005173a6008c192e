"""The statements of a part, read into flat steps.

An inner that waits tells no more of its place than the line of its ask. So
blocks become jumps, and whatever comes behind an ask is found from there on.

Steps are (word, ..): set, add (cell, source), draw (cell), ask (port, door,
source, line), answer (source), fail, unless (test, place to go to if it does
not hold), jump (place). A source is a word and a number: worth, cell, it, got.
"""

from truestandins.forms import is_door
from truestandins.lines import number

MOST_IN_BLOCK = 8
MOST_STATEMENTS = 24
DEEPEST = 3


class Program:
    """The steps of all doors that were read so far; asks tells of each line of an ask
    (place behind it, port, door)."""

    def __init__(self, lines, worths, cells, ports):
        self.lines = lines
        self.worths = worths
        self.cells = cells
        self.ports = ports
        self.steps = []
        self.asks = {}
        self.many = 0

    def read_door(self):
        """Reads what stands below a door, and returns the place where it begins."""
        start = len(self.steps)
        self.read_block(1, False)
        self.steps.append(("answer", ("worth", 0)))
        return start

    def read_block(self, depth, asks_first):
        """Reads the statements that stand so deep, one at least."""
        many = 0
        words = self.lines.words(depth)
        while words or many == 0:
            self.lines.need(words and many < MOST_IN_BLOCK and self.many < MOST_STATEMENTS)
            self.lines.need(many > 0 or not asks_first or words[0] == "ask")
            many += 1
            self.many += 1
            self.read_statement(words, depth)
            words = self.lines.words(depth)

    def read_statement(self, words, depth):
        if words[0] == "if":
            self.read_if(words, depth)
        elif words[0] == "while":
            self.read_while(words, depth)
        else:
            self.steps.append(self.plain_step(words))
            self.lines.step()

    def read_if(self, words, depth):
        place = self.read_head(words, depth)
        self.read_block(depth + 1, False)
        if self.lines.words(depth) != ["else"]:
            self.steps[place] += (len(self.steps),)
            return
        self.lines.step()
        leave = len(self.steps)
        self.steps.append(("jump",))
        self.steps[place] += (len(self.steps),)
        self.read_block(depth + 1, False)
        self.steps[leave] += (len(self.steps),)

    def read_while(self, words, depth):
        place = self.read_head(words, depth)
        self.read_block(depth + 1, True)
        self.steps.append(("jump", place))
        self.steps[place] += (len(self.steps),)

    def read_head(self, words, depth):
        """Reads the line of an if or a while; where its step leads to is added behind its block."""
        self.lines.need(depth < DEEPEST)
        self.steps.append(("unless", self.condition(words[1:])))
        self.lines.step()
        return len(self.steps) - 1

    def plain_step(self, words):
        """The step of a statement that has nothing below it."""
        word, *rest = words
        if word in ("set", "add") and len(rest) == 2:
            return word, self.cell(rest[0]), self.source(rest[1])
        if word == "draw" and len(rest) == 1:
            return word, self.cell(rest[0])
        if word == "ask" and len(rest) == 3:
            return self.ask_step(rest[0], rest[1], rest[2])
        if word == "answer" and len(rest) == 1:
            return word, self.source(rest[0])
        self.lines.need(words == ["fail"])
        return ("fail",)

    def ask_step(self, port, door, word):
        self.lines.need(port in self.ports and is_door(door))
        source = self.source(word)
        self.asks[self.lines.at] = (len(self.steps) + 1, port, door)
        return "ask", port, door, source, self.lines.at

    def cell(self, word):
        """The place of the cell of this name."""
        self.lines.need(word in self.cells)
        return self.cells.index(word)

    def source(self, word):
        """What an E tells to take."""
        if word in ("it", "got"):
            return word, 0
        if word in self.cells:
            return "cell", self.cells.index(word)
        worth = number(word, self.worths)
        self.lines.need(worth >= 0)
        return "worth", worth

    def condition(self, words):
        """What a COND asks for: (sign, source, source), or one word."""
        if len(words) == 1 and words[0] in ("lost", "busy"):
            return (words[0],)
        self.lines.need(len(words) == 3 and words[1] in ("=", "!="))
        return words[1], self.source(words[0]), self.source(words[2])
