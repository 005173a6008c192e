"""Texts of pacts."""

from truestandins.errors import BadPact, BadWorths
from truestandins.forms import is_door, is_worths
from truestandins.lines import Lines, number
from truestandins.pacts import MOST_STATES, MOST_WORTHS, is_pact

ANSWER_WORDS = ("busy", "lost")


def show_pact(pact):
    if not is_pact(MOST_WORTHS, pact):
        raise BadPact(pact)
    rows = []
    for at, state in enumerate(pact):
        rows.append(f"state {at}")
        rows.extend([f"  {door} {worth} -> {shown_outcomes(outcomes)}" for door, worth, outcomes in state])
    return "\n".join(rows)


def shown_outcomes(outcomes):
    worths_first = sorted(outcomes, key=lambda outcome: (outcome[0] < 0, abs(outcome[0])))
    return ", ".join([f"{shown_answer(answer)} {behind}" for answer, behind in worths_first])


def shown_answer(answer):
    return str(answer) if answer >= 0 else ANSWER_WORDS[answer + 2]


def read_pact(worths, text):
    if not is_worths(worths):
        raise BadWorths(worths)
    return pact_of_doors(worths, text, None)


def pact_of_doors(worths, text, doors):
    """The pact of a text, all doors of which are among these; with None of any doors."""
    lines = Lines(text)
    many = states_told(lines.rows)
    states = []
    while len(states) < MOST_STATES and lines.words(0) == ["state", str(len(states))]:
        lines.step()
        states.append(read_state(lines, worths, doors, many))
    # Each text has a line: if there is no state, it is bad as well.
    lines.need_end()
    return tuple(states)


def states_told(rows):
    """How many states there are going to be: a row may lead to one that stands further below."""
    many = 0
    for row in rows:
        if many < MOST_STATES and row == f"state {many}":
            many += 1
    return many


def read_state(lines, worths, doors, many):
    rows = {}
    words = lines.words(1)
    while words:
        lines.need(len(words) > 3 and words[2] == "->" and is_door(words[0]))
        lines.need(doors is None or words[0] in doors)
        called_with = worths_of(words[1], worths)
        lines.need(called_with and not [worth for worth in called_with if (words[0], worth) in rows])
        outcomes = read_outcomes(lines, " ".join(words[3:]), worths, many)
        for worth in called_with:
            rows[words[0], worth] = outcomes
        lines.step()
        words = lines.words(1)
    return tuple((door, worth, rows[door, worth]) for door, worth in sorted(rows))


def read_outcomes(lines, text, worths, many):
    outcomes = {}
    for row in text.split(", "):
        words = row.split(" ")
        lines.need(len(words) == 2)
        answers = answers_of(words[0], worths)
        behind = number(words[1], many)
        lines.need(answers and behind >= 0)
        for answer in answers:
            lines.need(answer not in outcomes)
            outcomes[answer] = behind
    return tuple((answer, outcomes[answer]) for answer in sorted(outcomes))


def worths_of(word, worths):
    """The worths that a word stands for, [] if it stands for none."""
    if word == "any":
        return list(range(worths))
    worth = number(word, worths)
    return [worth] if worth >= 0 else []


def answers_of(word, worths):
    """The answers that a word stands for, [] if it stands for none."""
    answer = answer_of(word, worths)
    return worths_of(word, worths) if answer is None else [answer]


def answer_of(word, worths):
    """The one answer that a word writes, None if it writes none."""
    if word in ANSWER_WORDS:
        return ANSWER_WORDS.index(word) - 2
    worth = number(word, worths)
    return worth if worth >= 0 else None
