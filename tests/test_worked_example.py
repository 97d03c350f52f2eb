"""The worked example under 'The calls', number by number, as far as the calls are there."""

import unittest

from helper import WORKED, ask, ask_after, candidates, count, load, round_of, rounds


def numbers(told):
    return [int(number) for number in told.split()]


class WorkedExample(unittest.TestCase):
    def test_load(self):
        self.assertEqual(ask(load(WORKED)), [[1, 3, 0]])

    def test_candidates(self):
        told = ("7 3 116 97 49 1 0 3 97 49 98 2 1 3 49 98 108 2 1 3 99 97 49 1 0"
                " 3 97 98 49 1 2 3 98 49 108 1 2 3 49 108 101 1 2")
        self.assertEqual(ask_after(WORKED, candidates(1, 2)), [numbers(told)])

    def test_count(self):
        self.assertEqual(ask_after(WORKED, count("1bl")), [[2, 1]])

    def test_rounds_one_by_one(self):
        told = ask_after(WORKED, round_of(1, 2, 1, 1, 1), rounds(),
                         round_of(2, 3, 1, 1, 1), round_of(3, 4, 1, 1, 1), rounds())
        self.assertEqual(told, [[4, 7, 6, 2, 4], [4, 2, 2, 1, 1],
                                [1, 3, 1, 0, 5], [1, 3, 1, 0, 6], [6, 3, 3, 0, 0]])

    def test_what_the_rounds_took(self):
        first = round_of(1, 2, 1, 1, 1)
        told = ask_after(WORKED, first, count("ta1"), count("1bl"), candidates(2, 3),
                         round_of(2, 3, 1, 1, 1), candidates(3, 4))
        self.assertEqual(told[1:3], [[0, 0], [0, 0]])
        self.assertEqual(told[3], numbers("3 4 46 97 50 98 1 0 4 97 50 98 108 1 2 4 50 98 108 101 1 2"))
        self.assertEqual(told[5], numbers("3 5 46 97 98 51 108 1 0 5 97 98 51 108 101 1 2"
                                          " 5 98 51 108 101 46 1 2"))

    def test_the_last_round_as_rounds(self):
        told = ask_after(WORKED, round_of(1, 2, 1, 1, 1), round_of(2, 3, 1, 1, 1), rounds(3, 4, 1, 1, 1))
        self.assertEqual(told[2], [6, 3, 3, 0, 0])

    def test_all_three_as_rounds(self):
        told = ask_after(WORKED, rounds(1, 2, 1, 1, 1, 2, 3, 1, 1, 1, 3, 4, 1, 1, 1))
        self.assertEqual(told, [[6, 3, 3, 0, 0]])

    def test_the_whole_line(self):
        whole = ask(load(WORKED), candidates(1, 2), count("1bl"), round_of(1, 2, 1, 1, 1), rounds(),
                    round_of(2, 3, 1, 1, 1), round_of(3, 4, 1, 1, 1), rounds())
        self.assertEqual([len(answer) for answer in whole], [3, 43, 2, 5, 5, 5, 5, 5])


if __name__ == "__main__":
    unittest.main()
