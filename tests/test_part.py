"""part: where letters told by themselves are parted by the patterns now, within the held list's margins."""

import unittest

from helper import WORKED, ask, ask_after, forget, load, part, patterns, round_of, rounds, score, text_of, undo

LETTERS = "abcdefghijklmnopqrstuvwxyz"
SIXTEEN = LETTERS[:16]
EVERY = [f"1{letter}" for letter in LETTERS]


def parted(patterns_told, letters, margins=(1, 1), words=()):
    return ask_after(text_of(margins, words, patterns_told), part(letters))[0]


class Letters(unittest.TestCase):
    def test_two_to_sixteen(self):
        for size in range(2, 17):
            self.assertEqual(parted(EVERY, LETTERS[:size]), [size - 1] + list(range(1, size)))
            self.assertEqual(parted([], LETTERS[:size]), [0])

    def test_other_numbers_of_them(self):
        for size in (0, 1, 17, 18, 40, 41, 4097, 8192):
            self.assertEqual(parted(EVERY, "a" * size), [-4], size)

    def test_each_byte_that_is_no_small_letter(self):
        for byte in range(256):
            right = chr(byte) in LETTERS
            for letters in ([byte, 98], [98, byte], [98, byte, 99], [byte] * 16):
                self.assertEqual(parted([], letters), [0] if right else [-4], letters)

    def test_what_a_words_or_a_patterns_chunk_may_have(self):
        for letters in ("a-b", "ta-ble", "-ab", "ab-", ".ab", "ab.", "a.b", "a1b", "1ab", "ab ", " ab", "ab;", "ab\n",
                        "..", "Ab", "aB", "a#", "12", "\0\0", "a\xe4"):
            self.assertEqual(parted(EVERY, letters), [-4], letters)

    def test_too_many_with_wrong_ones_among_them(self):
        self.assertEqual(parted(EVERY, [0] * 8192), [-4])
        self.assertEqual(parted(EVERY, [255]), [-4])

    def test_a_refusal_changes_nothing(self):
        looks = [patterns(), score(), part("table"), undo(), patterns()]
        made = round_of(1, 2, 1, 1, 1)
        beside = ask_after(WORKED, made, part("a"), part(""), part("ta-ble"), *looks)
        self.assertEqual(beside[1:4], [[-4]] * 3)
        self.assertEqual(beside[4:], ask_after(WORKED, made, *looks)[1:])


class Parting(unittest.TestCase):
    def test_letters_that_are_no_listed_word(self):
        self.assertEqual(parted(["a1b"], "xabyab", words=["ab"]), [2, 2, 5])
        self.assertEqual(parted(["a1b"], "ab"), [1, 1])

    def test_letters_of_a_listed_word_whatever_it_may(self):
        self.assertEqual(parted(["a1b"], "xab", words=["x-ab"]), [1, 2])
        self.assertEqual(parted([], "xab", words=["x-ab"]), [0])

    def test_gaps_are_told_from_the_front_on(self):
        self.assertEqual(parted(["f1", "b1", "d1", "a1"], "abcdefg"), [4, 1, 2, 4, 6])

    def test_the_greatest_level_counts(self):
        self.assertEqual(parted(["a1b", "2b"], "ab"), [0])
        self.assertEqual(parted(["a1b", "2b", "a3"], "ab"), [1, 1])
        for digit in range(1, 10):
            self.assertEqual(parted([f"a{digit}b"], "ab"), [1, 1] if digit % 2 else [0])

    def test_several_digits(self):
        self.assertEqual(parted(["1a2b3c4d5"], "xabcdx"), [3, 1, 3, 5])

    def test_a_pattern_that_overlaps_itself(self):
        self.assertEqual(parted(["aa1a"], "aaaaa"), [3, 2, 3, 4])
        self.assertEqual(parted(["1a2a"], "aaaa"), [0])
        self.assertEqual(parted(["1a2a"], "xaaa"), [1, 1])

    def test_a_pattern_at_the_front_alone(self):
        self.assertEqual(parted([".a1b"], "abab"), [1, 1])
        self.assertEqual(parted([".a1b"], "cab"), [0])
        self.assertEqual(parted([".a1"], "aa"), [1, 1])

    def test_a_pattern_at_the_end_alone(self):
        self.assertEqual(parted(["a1b."], "abab"), [1, 3])
        self.assertEqual(parted(["a1b."], "abc"), [0])
        self.assertEqual(parted(["1a."], "aaa"), [1, 2])

    def test_a_pattern_for_all_the_letters(self):
        self.assertEqual(parted([".a1b."], "ab"), [1, 1])
        self.assertEqual([parted([".a1b."], letters) for letters in ("abc", "cab", "abab")], [[0]] * 3)
        self.assertEqual(parted([".a1b2c3d4e5f."], "abcdef"), [3, 1, 3, 5])

    def test_a_pattern_without_points_at_both_ends(self):
        self.assertEqual(parted(["a1b"], "abcab"), [2, 1, 4])

    def test_letters_fewer_than_a_patterns(self):
        self.assertEqual(parted(["a1bc", "c1ab", ".a1bc", "ca1b."], "ab"), [0])


class Margins(unittest.TestCase):
    def test_each_pair_of_margins(self):
        for left in range(6):
            for right in range(6):
                for size in (2, 5, 6, 9, 10, 16):
                    inner = [k for k in range(1, size) if k >= left and size - k >= right]
                    told = parted(EVERY, LETTERS[:size], (left, right))
                    self.assertEqual(told, [len(inner)] + inner, (left, right, size))

    def test_margins_of_0_part_no_end(self):
        self.assertEqual(parted(["1a", "b1", ".1a", "b1."], "ab", (0, 0)), [0])

    def test_left_is_at_the_front(self):
        self.assertEqual(parted(EVERY, "abcd", (3, 1)), [1, 3])
        self.assertEqual(parted(EVERY, "abcd", (1, 3)), [1, 1])

    def test_those_of_the_list_held_now(self):
        told = ask(load(text_of((1, 1), [], EVERY)), part("abcd"), load(text_of((2, 2), [], EVERY)), part("abcd"),
                   load("margins 3 3"), part("abcd"))
        self.assertEqual(told[1::2], [[3, 1, 2, 3], [1, 2], [1, 2]])


class PatternsNow(unittest.TestCase):
    def test_behind_each_call_that_changes_them(self):
        made = round_of(1, 2, 1, 1, 1)
        told = ask_after(WORKED, part("able"), made, part("able"), rounds(2, 3, 1, 1, 1, 3, 4, 1, 1, 1), part("able"),
                         undo(), part("able"), undo(), part("able"), made, forget(), part("able"))
        self.assertEqual([answer for at, answer in enumerate(told) if at in (0, 2, 4, 6, 8, 11)],
                         [[0], [1, 1], [1, 2], [1, 1], [0], [0]])

    def test_it_changes_nothing(self):
        made = round_of(1, 2, 1, 1, 1)
        told = ask_after(WORKED, made, part("zz"), part("able"), part("able"), patterns(), undo())
        self.assertEqual(told[2], told[3])
        self.assertEqual(told[4:], ask_after(WORKED, made, patterns(), undo())[1:])


if __name__ == "__main__":
    unittest.main()
