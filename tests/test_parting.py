"""Parting by a list's patterns: levels, margins, hits, faults, misses and exact words."""

import unittest

from helper import ask_after, count, rounds, score, text_of


def scored(margins, words, patterns):
    """Give exact words, hits, faults and misses by a list's own patterns."""
    told, by_no_round = ask_after(text_of(margins, words, patterns), score(), rounds())
    assert told == by_no_round and told[0] == len(patterns)
    return told[1:]


class Fitting(unittest.TestCase):
    def test_a_pattern_fits_wherever_its_letters_stand(self):
        self.assertEqual(scored((1, 1), ["xa-byabz"], ["a1b"]), [0, 1, 1, 0])
        self.assertEqual(scored((1, 1), ["a-a-a"], ["a1a"]), [1, 2, 0, 0])

    def test_its_letters_have_to_stand_as_told(self):
        self.assertEqual(scored((1, 1), ["b-a", "acb"], ["a1b"]), [1, 0, 0, 1])

    def test_a_front_point(self):
        self.assertEqual(scored((1, 1), ["a-bcab"], [".a1b"]), [1, 1, 0, 0])
        self.assertEqual(scored((1, 1), ["ca-b"], [".a1b"]), [0, 0, 0, 1])

    def test_an_end_point(self):
        self.assertEqual(scored((1, 1), ["abca-b"], ["a1b."]), [1, 1, 0, 0])
        self.assertEqual(scored((1, 1), ["a-bc"], ["a1b."]), [0, 0, 0, 1])

    def test_both_points(self):
        self.assertEqual(scored((1, 1), ["a-b", "abc", "cab"], [".a1b."]), [3, 1, 0, 0])

    def test_a_pattern_without_points_fits_at_both_ends_too(self):
        self.assertEqual(scored((1, 1), ["a-bc", "ca-b"], ["a1b"]), [2, 2, 0, 0])

    def test_a_pattern_longer_than_the_word(self):
        self.assertEqual(scored((1, 1), ["a-b"], ["a1bc", "ca1b"]), [0, 0, 0, 1])

    def test_six_letters_with_both_points(self):
        self.assertEqual(scored((1, 1), ["abc-def"], [".abc1def."]), [1, 1, 0, 0])


class Levels(unittest.TestCase):
    def test_odd_levels_part_and_even_ones_do_not(self):
        for digit in range(1, 10):
            expected = [1, 1, 0, 0] if digit % 2 == 1 else [0, 0, 0, 1]
            self.assertEqual(scored((1, 1), ["a-b"], [f"a{digit}b"]), expected)

    def test_the_greatest_digit_counts_whatever_the_order(self):
        self.assertEqual(scored((1, 1), ["a-b"], ["a1b", "a2"]), [0, 0, 0, 1])
        self.assertEqual(scored((1, 1), ["a-b"], ["a2", "a1b"]), [0, 0, 0, 1])
        self.assertEqual(scored((1, 1), ["a-b"], ["a3", "a1b", "2b"]), [1, 1, 0, 0])
        self.assertEqual(scored((1, 1), ["a-b"], ["a8", "9b", "a7b"]), [1, 1, 0, 0])

    def test_a_patterns_digits_stand_each_at_its_gap(self):
        self.assertEqual(scored((1, 1), ["a-bc-d"], ["1a1b2c3d4"]), [1, 2, 0, 0])
        self.assertEqual(scored((1, 1), ["ab-cd"], ["a1bc1d"]), [0, 0, 2, 1])

    def test_gaps_before_the_first_and_behind_the_last_letter(self):
        self.assertEqual(scored((1, 1), ["ab-cd"], ["1c"]), [1, 1, 0, 0])
        self.assertEqual(scored((1, 1), ["ab-cd"], ["b1"]), [1, 1, 0, 0])

    def test_a_words_ends_are_never_parted(self):
        self.assertEqual(scored((0, 0), ["ab"], ["1a", "b1"]), [1, 0, 0, 0])

    def test_no_pattern_is_level_0(self):
        self.assertEqual(scored((1, 1), ["a-b-c", "de"], []), [1, 0, 0, 2])


class Margins(unittest.TestCase):
    every = [f"1{letter}" for letter in "bcdefgh"]

    def test_letters_before_and_behind(self):
        for left in range(6):
            for right in range(6):
                inner = [k for k in range(1, 8) if k >= left and 8 - k >= right]
                hyphens = "-".join("abcdefgh")
                told = scored((left, right), [hyphens], self.every)
                self.assertEqual(told, [1, len(inner), 0, 0], (left, right))
                told = scored((left, right), ["abcdefgh"], self.every)
                self.assertEqual(told, [1 if not inner else 0, 0, len(inner), 0], (left, right))
                told = scored((left, right), [hyphens], [])
                self.assertEqual(told, [1 if not inner else 0, 0, 0, len(inner)], (left, right))

    def test_left_and_right_are_not_the_same(self):
        self.assertEqual(scored((2, 1), ["a-bc"], []), [1, 0, 0, 0])
        self.assertEqual(scored((1, 2), ["a-bc"], []), [0, 0, 0, 1])
        self.assertEqual(scored((2, 1), ["ab-c"], []), [0, 0, 0, 1])

    def test_a_word_that_has_no_gap_within_the_margins(self):
        self.assertEqual(scored((5, 5), ["a-b", "a-b-c-d-e-f-g-h-i"], ["a1b"]), [2, 0, 0, 0])
        self.assertEqual(scored((5, 5), ["abcde-fghij"], []), [0, 0, 0, 1])

    def test_margins_of_0_are_as_those_of_1(self):
        self.assertEqual(scored((0, 0), ["a-b"], ["1a", "1b1"]), [1, 1, 0, 0])
        told = ask_after(text_of((0, 0), ["ab"]), count("1a"), count("b1"), count("a1b"))
        self.assertEqual(told, [[0, 0], [0, 0], [0, 1]])


class Score(unittest.TestCase):
    def test_all_words_together(self):
        told = scored((1, 1), ["a-b", "ab-c", "abd", "x-y", "xz"], ["a1b"])
        self.assertEqual(told, [2, 1, 2, 2])

    def test_exact_needs_neither_fault_nor_miss(self):
        self.assertEqual(scored((1, 1), ["a-bc"], ["a1b1c"])[0], 0)
        self.assertEqual(scored((1, 1), ["a-b-c"], ["a1b"])[0], 0)
        self.assertEqual(scored((1, 1), ["a-b-c"], ["a1b1c"])[0], 1)

    def test_without_words(self):
        self.assertEqual(scored((1, 1), [], ["a1b"]), [0, 0, 0, 0])

    def test_the_longest_word(self):
        self.assertEqual(scored((1, 1), ["-".join("abcdefghijklmnop")], ["o1p", "a1b"]), [0, 2, 0, 13])


if __name__ == "__main__":
    unittest.main()
