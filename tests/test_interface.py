"""The interface: names, kinds, the form of the answers, and that nothing is kept or changed."""

import inspect
import unittest

from helper import (BIG, WORKED, ask, candidates, count, forget, load, part, patterns, rounds, round_of, score, split,
                    text_of, undo)
from partrounds import learning

CALLS = [load(WORKED), candidates(1, 2), count("1bl"), round_of(1, 2, 1, 1, 1), rounds(2, 3, 1, 1, 1, 3, 4, 1, 1, 1),
         load("margins 1 1"), rounds(), candidates(0, BIG), round_of(1, 2, 3, -BIG, BIG), rounds(1, 2), count("ab"),
         patterns(), score(), part("able"), part("a"), undo(), patterns(), undo(), undo(), forget()]
FLAT = [number for call in CALLS for number in call]


class Interface(unittest.TestCase):
    def test_the_name_and_the_argument(self):
        self.assertEqual(list(inspect.signature(learning.answers).parameters), ["calls"])

    def test_how_an_answer_is_given_back(self):
        told = learning.answers(load(WORKED) + rounds() + round_of(0, 2, 1, 1, 1) + count("1bl"))
        self.assertEqual(told, [3, 1, 3, 0, 5, 0, 0, 0, 0, 3, 1, -4, 2, 2, 1])

    def test_one_call(self):
        self.assertEqual(learning.answers(rounds()), [1, -1])
        for call in (patterns(), score(), part("able"), part(""), undo(), forget()):
            self.assertEqual(learning.answers(call), [1, -1])
        self.assertEqual(learning.answers(load("")), [3, 0, 3, 0])

    def test_how_calls_without_numbers_are_told(self):
        text = text_of((1, 1), ["a-b"], ["a1b"])
        told = learning.answers(load(text) + [5] + [6] + [7, 3, 97, 98, 97] + [8] + [9])
        self.assertEqual(told, [3, 1, 1, 1, 5, 1, 3, 97, 49, 98, 5, 1, 1, 1, 0, 0, 2, 1, 1, 1, -8, 1, 1])

    def test_numbers_in_a_row_that_are_like_calls(self):
        told = ask(load(WORKED), part([5, 6]), score(), part([8, 9, 0]), rounds(5, 6, 7, 8, 9, 9), count([9]),
                   patterns())
        self.assertEqual(told[1:], [[-4], [0, 0, 0, 0, 3], [-4], [-4], [-4], [0]])

    def test_whole_numbers_alone_are_given_back(self):
        told = learning.answers(FLAT)
        self.assertIs(type(told), list)
        self.assertEqual({type(number) for number in told}, {int})

    def test_the_first_number_is_below_0_just_at_a_refusal(self):
        for answer in split(learning.answers(FLAT)):
            self.assertTrue(answer[0] >= 0 or len(answer) == 1)
            self.assertTrue(all(number >= 0 for number in answer[1:]))

    def test_all_of_a_call_is_read(self):
        for call in CALLS:
            self.assertEqual(len(ask(load(WORKED), call, rounds())), 3)

    def test_twenty_calls(self):
        self.assertEqual(len(ask(load(WORKED), *[candidates(1, 2)] * 19)), 20)
        for call in (patterns(), score(), part("able"), undo(), forget()):
            told = ask(load(WORKED), *[call] * 19)
            self.assertEqual(told[1:], [told[1]] * 19)

    def test_the_longest_rows(self):
        told = ask(load([33] * 8192), load(WORKED), count([97] * 8192))
        self.assertEqual(told, [[0, 1, 4096], [1, 3, 0], [-4]])
        self.assertEqual(ask(load(WORKED), rounds(*[BIG] * 2000), rounds(*[-BIG] * 2000))[1:], [[-4], [-4]])
        told = ask(load(WORKED), part([97] * 8192), part([0] * 8192), score())
        self.assertEqual(told[1:], [[-4], [-4], [0, 0, 0, 0, 3]])


class NothingChanged(unittest.TestCase):
    def test_what_is_handed_in_stays(self):
        handed = list(FLAT)
        learning.answers(handed)
        self.assertEqual(handed, FLAT)

    def test_not_for_a_while_either(self):
        class Watched(list):
            def changed(self, *args):
                raise AssertionError("what was handed in is changed")

            append = extend = insert = pop = remove = reverse = sort = clear = changed
            __setitem__ = __delitem__ = __iadd__ = __imul__ = changed

        self.assertEqual(learning.answers(Watched(FLAT)), learning.answers(FLAT))


class NothingKept(unittest.TestCase):
    def test_a_second_time_is_as_the_first(self):
        self.assertEqual(learning.answers(FLAT), learning.answers(FLAT))

    def test_a_list_is_not_held_for_the_next_time(self):
        learning.answers(FLAT)
        self.assertEqual(ask(rounds(), candidates(1, 2), count("1bl"), patterns(), score(), part("able"), undo(),
                             forget()), [[-1]] * 8)

    def test_patterns_are_not_held_for_the_next_time(self):
        text = text_of((1, 1), ["ta-ble"], ["a2b"])
        first = ask(load(text), round_of(1, 2, 1, 1, 1), rounds())
        self.assertEqual(ask(load(text), round_of(1, 2, 1, 1, 1), rounds()), first)
        self.assertEqual(first[2][0], 3)

    def test_rounds_are_not_held_for_the_next_time(self):
        ask(load(WORKED), round_of(1, 2, 1, 1, 1), round_of(2, 3, 1, 1, 1))
        self.assertEqual(ask(load(WORKED), undo(), patterns(), score()), [[1, 3, 0], [-8], [0], [0, 0, 0, 0, 3]])

    def test_each_call_starts_anew(self):
        for size in range(1, len(CALLS) + 1):
            first = ask(*CALLS[:size])
            self.assertEqual(ask(*CALLS[:size]), first)
            self.assertEqual(ask(*CALLS[size - 1:])[0][0] == -1, CALLS[size - 1][0] != 0)

    def test_another_list_in_between(self):
        first = ask(load(WORKED), round_of(1, 2, 1, 1, 1), rounds())
        ask(load(text_of((2, 2), ["ab-cd"], ["a1b", "b1c"])), round_of(1, 3, 1, 1, 1))
        self.assertEqual(ask(load(WORKED), round_of(1, 2, 1, 1, 1), rounds()), first)


if __name__ == "__main__":
    unittest.main()
