import unittest
from itertools import product
from random import Random

from tests.helping import ODD_VALUES, exactly, told
from truestandins.pacts import behind, first_more, is_pact, least_pact
from truestandins.pacttexts import read_pact

FREE = read_pact(2, "state 0\n  get any -> any 0, lost 0")
ONCE = read_pact(2, "state 0\n  get 0 -> 0 1\n  get 1 -> 1 1\nstate 1\n  get any -> lost 1")


def row(door="get", worth=0, outcomes=((0, 0),)):
    return (door, worth, outcomes)


def ring(many, marks=(), leave=()):
    """A ring of so many states; in those of marks another answer is let, too; those of leave lead on to no row."""
    states = []
    for at in range(many):
        later = (at + 1) % many
        outcomes = ((-1, later), (0, later)) if at in marks else ((0, later),)
        states.append(() if at in leave else (("get", 0, outcomes),))
    return tuple(states)


def some_pact(random, many):
    """A small pact, by chance."""
    states = []
    for _ in range(many):
        rows = []
        for door, worth in (("a", 0), ("a", 1), ("b", 0)):
            answers = [answer for answer in (-2, -1, 0) if random.randrange(3) == 0]
            if answers:
                rows.append((door, worth, tuple((answer, random.randrange(many)) for answer in answers)))
        states.append(tuple(rows))
    return tuple(states)


def words_let(pact, length):
    """All words of at most this length that a pact lets, each with the state behind it."""
    found = {(): 0}
    last = {(): 0}
    for _ in range(length):
        last = {
            word + ((door, worth, answer),): later
            for word, state in last.items() for door, worth, outcomes in pact[state] for answer, later in outcomes
        }
        found.update(last)
    return found


class Examples(unittest.TestCase):
    def test_as_they_stand(self):
        self.assertEqual([FREE, behind(ONCE, (("get", 1, 1),)), first_more(FREE, ONCE), first_more(ONCE, FREE)], [
            ((("get", 0, ((-1, 0), (0, 0), (1, 0))), ("get", 1, ((-1, 0), (0, 0), (1, 0)))),), 1,
            (("get", 0, -1),), None])
        self.assertEqual(len(least_pact(read_pact(2, "state 0\n  get 0 -> 0 1\nstate 1\n  get 0 -> 0 0"))), 1)


class IsPact(unittest.TestCase):
    def test_worths(self):
        for value in ODD_VALUES + (1, 0, -2, "2", 400):
            self.assertEqual(exactly(told(lambda: is_pact(value, FREE))), exactly(("BadWorths", value)))
            self.assertEqual(exactly(told(lambda: is_pact(value, None))), exactly(("BadWorths", value)))

    def test_right_ones(self):
        for worths in (2, 3, 4):
            for value in (((),), ((), ()), FREE, ONCE, ((row(),),), ((row(), row(worth=1)),), ((row("a"), row("b")),),
                          ((row("a", 1), row("b", 0)),), ((row(outcomes=((-2, 1), (-1, 0), (0, 0), (1, 1))),), ()),
                          ((row("abcdefgh"),),), ((row("state"),),)):
                self.assertIs(is_pact(worths, value), True)

    def test_by_name(self):
        self.assertIs(is_pact(value=FREE, worths=2), True)

    def test_the_worths_bound_calls_and_answers(self):
        for worths, worth in product((2, 3, 4), range(-4, 6)):
            self.assertIs(is_pact(worths, ((row(worth=worth),),)), 0 <= worth < worths)
            self.assertIs(is_pact(worths, ((row(outcomes=((worth, 0),)),),)), -2 <= worth < worths)

    def test_how_many_states(self):
        self.assertIs(is_pact(2, ()), False)
        self.assertIs(is_pact(2, ((),) * 400), True)
        self.assertIs(is_pact(2, ((),) * 401), False)
        self.assertIs(is_pact(2, ring(400)), True)
        self.assertIs(is_pact(2, ring(401)), False)

    def test_next_states(self):
        for many, later in product((1, 2, 3), range(-1, 5)):
            pact = ((row(outcomes=((0, later),)),),) + ((),) * (many - 1)
            self.assertIs(is_pact(2, pact), 0 <= later < many)

    def test_any_number_of_rows(self):
        doors = ["".join(letters) for letters in product("abcdefg", repeat=3)]
        self.assertIs(is_pact(2, (tuple(row(door) for door in doors),)), True)

    def test_they_ascend(self):
        for rows in ((row("b"), row("a")), (row(worth=1), row()), (row(), row()), (row("b", 0), row("a", 1)),
                     (row(outcomes=((0, 0),)), row(outcomes=((1, 0),))), (row("a"), row("c"), row("b"))):
            self.assertIs(is_pact(2, (rows,)), False)
        for outcomes in (((0, 0), (-1, 0)), ((0, 0), (0, 0)), ((0, 0), (0, 1)), ((-1, 0), (-2, 0)), ((1, 0), (0, 1)),
                         ((-2, 0), (0, 0), (-1, 0))):
            self.assertIs(is_pact(2, ((row(outcomes=outcomes),), ())), False)
        self.assertIs(is_pact(2, ((row(outcomes=((0, 1), (1, 0))),), ())), True)

    def test_a_row_has_outcomes(self):
        self.assertIs(is_pact(2, ((row(outcomes=()),),)), False)
        self.assertIs(is_pact(2, ((row("a"), row("b", 0, ())),)), False)

    def test_doors(self):
        for door in ("", "any", "abcdefghi", "A", "a1", "a b", "\u00e9", "a\n"):
            self.assertIs(is_pact(2, ((row(door),),)), False, door)

    def test_any_value_at_any_depth(self):
        for value in ODD_VALUES:
            state = value == ((),) or value == ((), ())
            self.assertIs(is_pact(2, value), state)
            self.assertIs(is_pact(2, (value,)), value == ())
            self.assertIs(is_pact(2, ((), value)), value == ())
            self.assertIs(is_pact(2, ((value,),)), False)
            self.assertIs(is_pact(2, ((row(value),),)), value == "zz")
            self.assertIs(is_pact(2, ((row("zz"), row(value, 1)),)), value == "zz")
            self.assertIs(is_pact(2, ((row(worth=value),),)), False)
            self.assertIs(is_pact(2, ((row(outcomes=value),),)), False)
            self.assertIs(is_pact(2, ((row(outcomes=(value,)),),)), False)
            self.assertIs(is_pact(2, ((row(outcomes=((value, 0),)),),)), False)
            self.assertIs(is_pact(2, ((row(outcomes=((0, value),)),),)), False)
            self.assertIs(is_pact(2, ((row(outcomes=((0, 0), value)),),)), False)
            self.assertIs(is_pact(2, ((row(), value),)), False)

    def test_sizes(self):
        for value in ((("get", 0),), (("get", 0, ((0, 0),), 0),), (("get", 0, ((0,),)),), (("get", 0, ((0, 0, 0),)),),
                      (["get", 0, ((0, 0),)],), (("get", 0, [(0, 0)]),), (("get", 0, ([0, 0],)),)):
            self.assertIs(is_pact(2, (value,)), False)
        self.assertIs(is_pact(2, [()]), False)
        self.assertIs(is_pact(2, ([],)), False)

    def test_truths_are_no_integers(self):
        self.assertIs(is_pact(2, ((row(worth=False),),)), False)
        self.assertIs(is_pact(2, ((row(outcomes=((False, 0),)),),)), False)
        self.assertIs(is_pact(2, ((row(outcomes=((0, False),)),),)), False)
        self.assertIs(is_pact(2, ((row(outcomes=((0, True),)),), ())), False)


WRONG_PACTS = ODD_VALUES[:16] + (
    [()], ((row(), row()),), (row(),), ((row(worth=4),),), ((row(outcomes=((4, 0),)),),), ((row(outcomes=((0, 1),)),),),
    ((row("any"),),), ((row(worth=True),),), ((row(outcomes=((True, 0),)),),), ring(401), ((row(outcomes=((-3, 0),)),),),
)
WRONG_PACTS = tuple(value for value in WRONG_PACTS if value != ((),))
FOUR = ((row(worth=3, outcomes=((3, 0),)),),)


class Behind(unittest.TestCase):
    def test_words_that_are_let(self):
        self.assertEqual(behind(ONCE, ()), 0)
        self.assertEqual(behind(ONCE, (("get", 0, 0),)), 1)
        self.assertEqual(behind(ONCE, (("get", 0, 0), ("get", 0, -1))), 1)
        self.assertEqual(behind(ring(7), (("get", 0, 0),) * 23), 2)
        self.assertEqual(behind(FOUR, (("get", 3, 3),)), 0)

    def test_words_that_are_not(self):
        for word in ((("get", 0, 1),), (("get", 0, -2),), (("get", 1, 0),), (("get", 2, 0),), (("put", 0, 0),),
                     (("get", 0, 0), ("get", 0, 0)), (("get", 0, 0), ("get", 0, 1), ("get", 0, -1)),
                     (("get", 0, 3),), (("zz", 3, -2),)):
            self.assertIsNone(behind(ONCE, word))

    def test_each_state_of_a_long_ring(self):
        for many in range(400):
            self.assertEqual(behind(ring(400), (("get", 0, 0),) * many), many)

    def test_wrong_values(self):
        for value in WRONG_PACTS:
            self.assertEqual(exactly(told(lambda: behind(value, ()))), exactly(("BadPact", value)))
            self.assertEqual(exactly(told(lambda: behind(value, None))), exactly(("BadPact", value)))
        for value in ODD_VALUES:
            if value != ():
                self.assertEqual(exactly(told(lambda: behind(FREE, value))), exactly(("BadWord", value)))
            self.assertEqual(exactly(told(lambda: behind(FREE, (value,)))), exactly(("BadWord", (value,))))
        for letter in (("get", 0), ("get", 0, 0, 0), ["get", 0, 0], ("any", 0, 0), ("", 0, 0), ("Get", 0, 0),
                       ("get", -1, 0), ("get", 4, 0), ("get", 0, 4), ("get", 0, -3), ("get", True, 0),
                       ("get", 0, False), ("get", "0", 0), ("get", 0, None), (0, 0, 0), ("get", 0, "lost")):
            for word in ((letter,), (("put", 0, 0), letter), (("get", 0, 0), letter)):
                self.assertEqual(exactly(told(lambda: behind(FREE, word))), exactly(("BadWord", word)))

    def test_by_name(self):
        self.assertEqual(behind(word=(), pact=FREE), 0)


class LeastPact(unittest.TestCase):
    def test_alike_states_become_one(self):
        self.assertEqual(least_pact(((row(outcomes=((0, 1),)),), (row(outcomes=((0, 0),)),))), ((row(),),))
        self.assertEqual(least_pact(ring(400)), ((row(),),))
        self.assertEqual(least_pact(FREE), FREE)
        self.assertEqual(least_pact(ONCE), ONCE)

    def test_unreachable_states_go(self):
        self.assertEqual(least_pact(((), (row(),), (row(outcomes=((0, 1),)),))), ((),))
        pact = ((row(outcomes=((0, 2),)),), (row(outcomes=((1, 0),)),), (row(outcomes=((-1, 0),)),))
        self.assertEqual(least_pact(pact), ((row(outcomes=((0, 1),)),), (row(outcomes=((-1, 0),)),)))

    def test_rowless_states(self):
        pact = ((row(outcomes=((0, 1), (1, 2))),), (), ())
        self.assertEqual(least_pact(pact), ((row(outcomes=((0, 1), (1, 1))),), ()))
        self.assertEqual(least_pact(((),) * 5), ((),))

    def test_states_that_differ_far_away_stay_apart(self):
        for many in (2, 3, 10, 400):
            self.assertEqual(least_pact(ring(many, (many - 1,))), ring(many, (many - 1,)))
            self.assertEqual(least_pact(ring(many, leave=(many - 1,))), ring(many, leave=(many - 1,)))
        self.assertEqual(least_pact(ring(12, (1, 5, 9))), ring(4, (1,)))
        self.assertEqual(least_pact(ring(12, (1, 5, 8))), ring(12, (1, 5, 8)))

    def test_states_that_differ_by_one_thing(self):
        for other in (row("got"), row(worth=1), row(outcomes=((1, 0),)), row(outcomes=((0, 0), (1, 0)))):
            pact = ((row(outcomes=((0, 1),)),), (other,))
            self.assertEqual(len(least_pact(pact)), 2)

    def test_numbered_as_they_are_met(self):
        pact = ((row("a", 0, ((-1, 3), (0, 2))), row("b", 0, ((0, 1),))), (row("c"),), (row("d", 0, ((0, 4),)),),
                (row("e", 0, ((0, 5),)),), (row("f"),), (row("g"),))
        self.assertEqual(least_pact(pact), (
            (row("a", 0, ((-1, 1), (0, 2))), row("b", 0, ((0, 3),))), (row("e", 0, ((0, 4),)),),
            (row("d", 0, ((0, 5),)),), (row("c"),), (row("g"),), (row("f"),)))

    def test_it_is_the_same_for_all_that_let_the_same(self):
        random = Random(7)
        for _ in range(400):
            pact = some_pact(random, random.randrange(1, 5))
            least = least_pact(pact)
            self.assertTrue(is_pact(2, least))
            length = len(least)
            self.assertEqual(words_let(pact, length).keys(), words_let(least, length).keys())
            self.assertEqual([first_more(pact, least), first_more(least, pact)], [None, None])
            self.assertEqual(least_pact(least), least)
            met = [state for _, state in sorted(words_let(least, length).items(), key=lambda pair: len(pair[0]))]
            self.assertEqual(list(dict.fromkeys(met)), list(range(len(least))))
            for one, two in product(range(len(least)), repeat=2):
                alike = words_let(begun_at(least, one), length).keys() == words_let(begun_at(least, two), length).keys()
                self.assertEqual(alike, one == two)

    def test_wrong_values(self):
        for value in WRONG_PACTS:
            self.assertEqual(exactly(told(lambda: least_pact(value))), exactly(("BadPact", value)))
        self.assertEqual(least_pact(pact=FOUR), FOUR)

    def test_arguments_stay(self):
        pact = ring(9, (3,))
        before = exactly(pact)
        least_pact(pact)
        self.assertEqual(exactly(pact), before)


def begun_at(pact, at):
    """The pact that begins in another state: the two change places."""
    names = {0: at, at: 0}
    states = [tuple((door, worth, tuple((answer, names.get(later, later)) for answer, later in outcomes))
                    for door, worth, outcomes in state) for state in pact]
    return tuple(states[names.get(number, number)] for number in range(len(pact)))


class FirstMore(unittest.TestCase):
    def test_the_least_of_the_shortest(self):
        one = ((row("a", 0, ((0, 1), (1, 2))), row("b", 1, ((0, 0),))), (row("c"),), (row("a"),))
        self.assertEqual(first_more(one, ((),)), (("a", 0, 0),))
        other = ((row("a", 0, ((0, 0), (1, 0))), row("b", 1, ((0, 0),))),)
        self.assertEqual(first_more(one, other), (("a", 0, 0), ("c", 0, 0)))
        self.assertEqual(first_more(other, one), (("a", 0, 0), ("a", 0, 0)))

    def test_shorter_goes_ahead_of_lesser(self):
        one = ((row("a", 0, ((0, 1),)), row("b", 0, ((0, 0),))), (row("a"),))
        other = ((row("a", 0, ((0, 1),)),), ())
        self.assertEqual(first_more(one, other), (("b", 0, 0),))

    def test_answers_as_python_sorts(self):
        one = ((row(outcomes=((-2, 0), (-1, 0), (0, 0), (1, 0))),),)
        for answers in ((), (-2,), (-2, -1), (-2, -1, 0), (-1, 0, 1), (-2, 1)):
            other = ((row(outcomes=tuple((answer, 0) for answer in answers)),),) if answers else ((),)
            first = min(set((-2, -1, 0, 1)) - set(answers))
            self.assertEqual(first_more(one, other), (("get", 0, first),))
            self.assertIsNone(first_more(other, one))

    def test_none_of_equal_ones(self):
        for pact in (FREE, ONCE, ring(400), ((),), FOUR):
            self.assertIsNone(first_more(pact, pact))
        self.assertIsNone(first_more(ring(6), ring(35)))

    def test_far_away(self):
        self.assertEqual(first_more(ring(400, (399,)), ring(400)), (("get", 0, 0),) * 399 + (("get", 0, -1),))
        self.assertIsNone(first_more(ring(400), ring(400, (399,))))
        found = first_more(ring(20, (19,)), ring(21, (18, 19)))
        self.assertEqual(found, ((("get", 0, 0),) * 19 + (("get", 0, -1),)) * 3)

    def test_two_long_rings_that_meet_late(self):
        self.assertIsNone(first_more(ring(400, (399,)), ring(399, range(399))))
        word = first_more(ring(400, (399,)), ring(399, range(1, 399)))
        last = next(at for at in range(399, 160000, 400) if at % 399 == 0)
        self.assertEqual(word, tuple(("get", 0, -1 if at % 400 == 399 else 0) for at in range(last + 1)))

    def test_against_all_short_words(self):
        random = Random(11)
        for _ in range(300):
            one, other = some_pact(random, random.randrange(1, 4)), some_pact(random, random.randrange(1, 4))
            let = words_let(other, 4)
            more = sorted((len(word), word) for word in words_let(one, 4) if word not in let)
            found = first_more(one, other)
            if more:
                self.assertEqual(found, more[0][1])
            else:
                self.assertTrue(found is None or len(found) > 4)

    def test_wrong_values(self):
        for value in WRONG_PACTS:
            self.assertEqual(exactly(told(lambda: first_more(value, FREE))), exactly(("BadPact", value)))
            self.assertEqual(exactly(told(lambda: first_more(FREE, value))), exactly(("BadPact", value)))
            self.assertEqual(exactly(told(lambda: first_more(value, None))), exactly(("BadPact", value)))
        self.assertEqual(told(lambda: first_more(None, [])), ("BadPact", None))
        self.assertEqual(first_more(other=((),), pact=FOUR), (("get", 3, 3),))


if __name__ == "__main__":
    unittest.main()
