"""Section 14's stand-ins once more: what takes a call is told from all calls ahead of it."""

from random import Random

LEAST_USES = {"once": 1, "twice": 2, "often": 0}


class PlainStandIn:
    """A stand-in by its text, which is right; taken has the numbers of the rows that took calls, in sequence."""

    def __init__(self, text):
        rows = text.split("\n")
        self.ordered = rows[0] == "in order"
        self.rows = [row.split(" ", 4) for row in rows if "->" in row]
        self.other = rows[-1].split()[1] if "->" not in rows[-1] else None

    def taker(self, taken, door, worth):
        place = max(taken, default=0) if self.ordered else 0
        for at, (asked, known, times, _, _) in enumerate(self.rows):
            if at < place or asked != door or known not in ("any", str(worth)):
                continue
            if times != "often" and taken.count(at) == LEAST_USES[times]:
                continue
            ahead = [number for number in range(place, at) if self.ordered]
            return at if all(self.is_used(taken, number) for number in ahead) else None
        return None

    def is_used(self, taken, number):
        return taken.count(number) >= LEAST_USES[self.rows[number][2]]

    def is_done(self, taken):
        return all(self.is_used(taken, number) for number in range(len(self.rows)))

    def call(self, taken, door, worth):
        """(answer, taken behind it), None if it is a surprise."""
        at = self.taker(taken, door, worth)
        if at is None:
            return self.other and (answer_told(self.other), taken)
        answers = self.rows[at][4].split(", ")
        return answer_told((answers + answers[-1:] * 9)[taken.count(at)]), taken + (at,)

    def shown(self, taken):
        """(place, uses), as tables show them."""
        uses = [min(taken.count(at), max(LEAST_USES[row[2]], len(row[4].split(", ")))) for at, row in enumerate(self.rows)]
        return max(taken, default=0) if self.ordered else 0, tuple(uses)

    def kept_short(self, taken):
        """What was taken, with no more of each row than matters: so there are not too many."""
        kept = ()
        for at in taken:
            if kept.count(at) < max(LEAST_USES[self.rows[at][2]], len(self.rows[at][4].split(", "))):
                kept += (at,)
        return tuple(sorted(kept))


def answer_told(word):
    return {"lost": -1, "busy": -2}[word] if word in ("lost", "busy") else int(word)


def random_stand_in(draw, doors, worths=2, rows=4):
    """The text of a stand-in for these doors."""
    answers = [str(worth) for worth in range(worths)] + ["lost", "busy"]
    found = ["in order"] * draw.randint(0, 1)
    for _ in range(draw.randint(1, rows)):
        told = ", ".join(draw.choice(answers) for _ in range(draw.randint(1, 3)))
        known = draw.choice(["any"] + [str(worth) for worth in range(worths)])
        found.append(f"{draw.choice(doors)} {known} {draw.choice(sorted(LEAST_USES))} -> {told}")
    return "\n".join(found + [f"else {draw.choice(answers)}"] * (draw.random() < 0.3))


def random_stand_ins(many, doors=("get", "put"), worths=2):
    draw = Random(7)
    return [random_stand_in(draw, doors, worths) for _ in range(many)]
