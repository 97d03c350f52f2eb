"""The worked example under 'The calls', number by number, to its end."""

import unittest

from helper import (WORKED, ask, ask_after, candidates, count, forget, load, part, patterns, round_of, rounds, score,
                    undo)

LINE = [
    (load(WORKED), "1 3 0"),
    (candidates(1, 2), "7 3 116 97 49 1 0 3 97 49 98 2 1 3 49 98 108 2 1 3 99 97 49 1 0"
                       " 3 97 98 49 1 2 3 98 49 108 1 2 3 49 108 101 1 2"),
    (count("1bl"), "2 1"),
    (round_of(1, 2, 1, 1, 1), "4 7 6 2 4"),
    (score(), "4 2 2 1 1"),
    (round_of(2, 3, 1, 1, 1), "1 3 1 0 5"),
    (round_of(3, 4, 1, 1, 1), "1 3 1 0 6"),
    (score(), "6 3 3 0 0"),
    (patterns(), "6 3 116 97 49 3 97 49 98 3 49 98 108 3 99 97 49 4 46 97 50 98 5 46 97 98 51 108"),
    (part("fable"), "1 2"),
    (undo(), "5"),
    (rounds(3, 4, 1, 1, 1), "6 3 3 0 0"),
    (forget(), "0"),
]


def numbers(told):
    return [int(number) for number in told.split()]


class WorkedExample(unittest.TestCase):
    def test_the_whole_line(self):
        told = ask(*[call for call, expected in LINE])
        self.assertEqual(told, [numbers(expected) for call, expected in LINE])

    def test_the_line_as_far_as_each_of_its_calls(self):
        for size in range(1, len(LINE) + 1):
            told = ask(*[call for call, expected in LINE[:size]])
            self.assertEqual(told[-1], numbers(LINE[size - 1][1]))

    def test_able_is_parted_behind_a_by_the_first_round(self):
        told = ask_after(WORKED, round_of(1, 2, 1, 1, 1), part("able"), part("table"), part("cable"))
        self.assertEqual(told[1:], [[1, 1], [1, 2], [1, 2]])

    def test_what_the_three_rounds_leave(self):
        told = ask_after(WORKED, rounds(1, 2, 1, 1, 1, 2, 3, 1, 1, 1, 3, 4, 1, 1, 1), part("able"), part("table"))
        self.assertEqual(told, [[6, 3, 3, 0, 0], [1, 2], [1, 2]])

    def test_what_the_rounds_took(self):
        first = round_of(1, 2, 1, 1, 1)
        told = ask_after(WORKED, first, count("ta1"), count("1bl"), candidates(2, 3),
                         round_of(2, 3, 1, 1, 1), candidates(3, 4))
        self.assertEqual(told[1:3], [[0, 0], [0, 0]])
        self.assertEqual(told[3], numbers("3 4 46 97 50 98 1 0 4 97 50 98 108 1 2 4 50 98 108 101 1 2"))
        self.assertEqual(told[5], numbers("3 5 46 97 98 51 108 1 0 5 97 98 51 108 101 1 2"
                                          " 5 98 51 108 101 46 1 2"))


if __name__ == "__main__":
    unittest.main()
