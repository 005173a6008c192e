"""Pacts: which calls may come over a wire, and which answers may be given."""

from truestandins.errors import BadPact, BadWord, BadWorths, TooMany
from truestandins.forms import ascends, is_answer, is_below, is_door, is_tuple, is_worths

MOST_STATES = 400
MOST_WORTHS = 4


def is_pact(worths, value):
    if not is_worths(worths):
        raise BadWorths(worths)
    if not isinstance(value, tuple) or not 1 <= len(value) <= MOST_STATES:
        return False
    return all([is_state(worths, len(value), state) for state in value])


def is_state(worths, many, value):
    """Whether it is a state of a pact of so many states."""
    if not isinstance(value, tuple) or not all([is_row(worths, many, row) for row in value]):
        return False
    return ascends([row[:2] for row in value])


def is_row(worths, many, value):
    """Whether it is (door, worth, outcomes)."""
    if not is_tuple(value, 3):
        return False
    door, worth, outcomes = value
    if not (is_door(door) and is_below(worth, worths) and isinstance(outcomes, tuple) and outcomes):
        return False
    if not all([is_outcome(worths, many, outcome) for outcome in outcomes]):
        return False
    return ascends([answer for answer, _ in outcomes])


def is_outcome(worths, many, value):
    """Whether it is (answer, number of the state behind it)."""
    return is_tuple(value, 2) and is_answer(value[0], worths) and is_below(value[1], many)


def is_word(value):
    """Whether it is a tuple of (door, worth, answer)."""
    return isinstance(value, tuple) and all([is_letter(letter) for letter in value])


def is_letter(value):
    if not is_tuple(value, 3):
        return False
    return is_door(value[0]) and is_below(value[1], MOST_WORTHS) and is_answer(value[2], MOST_WORTHS)


def outcomes_of(state, door, worth):
    """The outcomes of a call in a state, () if it is not let."""
    for row in state:
        if row[0] == door and row[1] == worth:
            return row[2]
    return ()


def state_behind(state, door, worth, answer):
    """The number of the state behind a call and its answer, None if they are not let."""
    for given, number in outcomes_of(state, door, worth):
        if given == answer:
            return number
    return None


def behind(pact, word):
    """The number of the state behind a word, None if it is not let."""
    if not is_pact(MOST_WORTHS, pact):
        raise BadPact(pact)
    if not is_word(word):
        raise BadWord(word)
    at = 0
    for door, worth, answer in word:
        at = state_behind(pact[at], door, worth, answer)
        if at is None:
            return None
    return at


def least_pact(pact):
    """The pact of fewest states that lets the same words."""
    if not is_pact(MOST_WORTHS, pact):
        raise BadPact(pact)
    return least_of(pact)


def least_of(pact):
    """As least_pact, of what is no pact by the number of its states alone; all of them are met."""
    kinds = kinds_of_states(pact)
    # Of each kind the state by which it is met first.
    met = {kinds[0]: 0}
    states = [0]
    at = 0
    while at < len(states):
        for _, number in letters_of(pact[states[at]]):
            if kinds[number] not in met:
                met[kinds[number]] = len(states)
                states.append(number)
        at += 1
    numbers = [met.get(kind) for kind in kinds]
    return tuple(renumbered(pact[number], numbers) for number in states)


def kinds_of_states(pact):
    """A number for each state; those have the same from which the same words are let."""
    kinds = [0] * len(pact)
    many = 0
    fresh = 1
    while fresh > many:
        many = fresh
        shapes = [renumbered(state, kinds) for state in pact]
        known = {}
        for shape in shapes:
            known.setdefault(shape, len(known))
        kinds = [known[shape] for shape in shapes]
        fresh = len(known)
        if fresh > MOST_STATES:
            raise TooMany(MOST_STATES)
    return kinds


def renumbered(state, numbers):
    """The state with other numbers of the states behind it."""
    return tuple(
        (door, worth, tuple((answer, numbers[number]) for answer, number in outcomes))
        for door, worth, outcomes in state
    )


def first_more(pact, other):
    """The first word by size that pact lets and other does not, None if there is none."""
    for value in (pact, other):
        if not is_pact(MOST_WORTHS, value):
            raise BadPact(value)
    met = {(0, 0): True}
    # Pairs of states, and how each was met; the words that meet them come by size, as rows and outcomes ascend.
    queue = [(0, 0, -1, ())]
    at = 0
    while at < len(queue):
        one, two, _, _ = queue[at]
        for letter, number in letters_of(pact[one]):
            beside = state_behind(other[two], letter[0], letter[1], letter[2])
            if beside is None:
                return word_that_met(queue, at) + (letter,)
            if (number, beside) not in met:
                met[number, beside] = True
                queue.append((number, beside, at, letter))
        at += 1
    return None


def letters_of(state):
    """All (letter of a word, number of the state behind it) that a state lets, ascending."""
    return [
        ((door, worth, answer), number)
        for door, worth, outcomes in state
        for answer, number in outcomes
    ]


def word_that_met(queue, at):
    letters = []
    while at > 0:
        letters.append(queue[at][3])
        at = queue[at][2]
    return tuple(letters[::-1])
