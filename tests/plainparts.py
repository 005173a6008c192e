"""Section 4 once more: a part's statements as a tree that is walked, against which the program is held."""


def statements(rows, at, depth):
    """The statements that stand so deep from a line on, (line, words, below, below else), and the line behind them."""
    found = []
    while at < len(rows) and len(rows[at]) - len(rows[at].lstrip()) == 2 * depth:
        line, words, below, below_else = at, rows[at].split(), [], []
        at += 1
        if words[0] in ("if", "while"):
            below, at = statements(rows, at, depth + 1)
        if words[0] == "if" and at < len(rows) and rows[at] == "  " * depth + "else":
            below_else, at = statements(rows, at + 1, depth + 1)
        found.append((line, words, below, below_else))
    return found, at


def doors_of(part):
    """The statements of each door."""
    rows = part.text.split("\n")
    return {row.split()[1]: statements(rows, at + 1, 1)[0] for at, row in enumerate(rows) if row.startswith("door ")}


class Walk:
    """One handling; what comes is (deed, inner), or None and (cells, last answer) if it goes on."""

    def __init__(self, part, it):
        self.names = [name for name, _ in part.cells]
        self.worths, self.it = part.worths, it

    def worth(self, word, now):
        if word in self.names:
            return now[0][self.names.index(word)]
        return {"it": self.it, "got": max(now[1], 0)}.get(word) if word in ("it", "got") else int(word)

    def holds(self, words, now):
        if words in (["lost"], ["busy"]):
            return now[1] == {"lost": -1, "busy": -2}[words[0]]
        return (self.worth(words[0], now) == self.worth(words[2], now)) == (words[1] == "=")

    def written(self, name, worth, now):
        return tuple(worth if other == name else elder for other, elder in zip(self.names, now[0])), now[1]

    def block(self, rows, now):
        if not rows:
            yield None, now
            return
        for deed, later in self.statement(rows[0], now):
            if deed:
                yield deed, later
            else:
                yield from self.block(rows[1:], later)

    def statement(self, row, now):
        line, words, below, below_else = row
        if words[0] == "set":
            yield None, self.written(words[1], self.worth(words[2], now), now)
        elif words[0] == "add":
            total = self.worth(words[1], now) + self.worth(words[2], now)
            yield None, self.written(words[1], total % self.worths, now)
        elif words[0] == "draw":
            for worth in range(self.worths):
                yield None, self.written(words[1], worth, now)
        elif words[0] == "ask":
            yield ("asks", words[1], words[2], self.worth(words[3], now)), (now[0], (line, self.it))
        elif words[0] in ("answer", "fail"):
            yield ("gives", self.worth(words[1], now) if words[1:] else -1), (now[0], ())
        elif words[0] == "if":
            yield from self.block(below if self.holds(words[1:], now) else below_else, now)
        elif self.holds(words[1:], now):
            yield from self.block(below + [row], now)
        else:
            yield None, now

    def behind(self, rows, line, now):
        """What comes behind the ask at a line somewhere in the rows."""
        for at, row in enumerate(rows):
            if row[0] == line:
                yield from self.block(rows[at + 1:], now)
            for below in row[2:]:
                if any(True for other in flat(below) if other == line):
                    rest = ([row] if row[1][0] == "while" else []) + rows[at + 1:]
                    for deed, later in self.behind(below, line, now):
                        if deed:
                            yield deed, later
                        else:
                            yield from self.block(rest, later)


def flat(rows):
    for line, _, below, below_else in rows:
        yield line
        yield from flat(below)
        yield from flat(below_else)


def ended(found):
    """The ascending (deed, inner); what goes on behind the last statement answers 0."""
    return tuple(sorted(set((deed, later) if deed else (("gives", 0), (later[0], ())) for deed, later in found)))


def plain_called(part, inner, door, worth):
    if inner[1]:
        return ((("gives", -2), inner),)
    return ended(Walk(part, worth).block(doors_of(part)[door], (inner[0], 0)))


def plain_answered(part, inner, answer):
    cells, (line, it) = inner
    rows = [rows for rows in doors_of(part).values() if line in list(flat(rows))][0]
    return ended(Walk(part, it).behind(rows, line, (cells, answer)))
