"""score: how many patterns there are now, exact words, hits, faults and misses."""

import unittest

from helper import WORKED, ask, ask_after, forget, load, part, round_of, rounds, score, text_of, undo

EVERY = [f"1{letter}" for letter in "bcdefgh"]
WORD = "abcdefgh"
HYPHENED = "-".join(WORD)


def scored(margins, words, patterns, *calls):
    return ask_after(text_of(margins, words, patterns), *calls, score())[-1]


class FiveNumbers(unittest.TestCase):
    def test_in_their_order(self):
        words = ["a-b", "ca-b", "ab-a-ba-b", "abd", "xz", "x-y-z-w-v"]
        self.assertEqual(scored((1, 1), words, ["a1b"]), [1, 3, 4, 2, 5])

    def test_no_words(self):
        self.assertEqual(scored((1, 1), [], []), [0, 0, 0, 0, 0])
        self.assertEqual(scored((1, 1), [], ["a1b", "2c"]), [2, 0, 0, 0, 0])

    def test_no_patterns(self):
        self.assertEqual(scored((1, 1), ["a-b", "c-d-e", "fgh"], []), [0, 1, 0, 0, 3])

    def test_a_hit_a_fault_and_a_miss_each_alone(self):
        self.assertEqual(scored((1, 1), ["a-b"], ["a1b"]), [1, 1, 1, 0, 0])
        self.assertEqual(scored((1, 1), ["ab"], ["a1b"]), [1, 0, 0, 1, 0])
        self.assertEqual(scored((1, 1), ["a-b"], ["a2b"]), [1, 0, 0, 0, 1])
        self.assertEqual(scored((1, 1), ["ab"], ["a2b"]), [1, 1, 0, 0, 0])

    def test_hit_fault_and_miss_in_one_word(self):
        self.assertEqual(scored((1, 1), ["a-bc-de"], ["a1b1c2d"]), [1, 0, 1, 1, 1])

    def test_exact_words_are_counted_word_by_word(self):
        words = ["a-b", "a-bc", "cab", "da-b", "de", "f-e"]
        self.assertEqual(scored((1, 1), words, ["a1b"]), [1, 4, 3, 1, 1])

    def test_the_most_words_of_the_most_letters(self):
        letters = "abcdefghijklmnopqrstuvwx"
        words = ["-".join((letters + letters)[at:at + 16]) for at in range(24)]
        self.assertEqual(scored((1, 1), words, []), [0, 0, 0, 0, 360])
        self.assertEqual(scored((1, 1), words, [f"{letter}1" for letter in letters]), [24, 24, 360, 0, 0])


class Margins(unittest.TestCase):
    def test_each_pair_of_margins(self):
        for left in range(6):
            for right in range(6):
                inner = 9 - max(left, 1) - max(right, 1)
                exact = 0 if inner > 0 else 1
                inner = max(inner, 0)
                self.assertEqual(scored((left, right), [HYPHENED], EVERY), [7, 1, inner, 0, 0])
                self.assertEqual(scored((left, right), [WORD], EVERY), [7, exact, 0, inner, 0])
                self.assertEqual(scored((left, right), [HYPHENED], []), [0, exact, 0, 0, inner])
                self.assertEqual(scored((left, right), [WORD], []), [0, 1, 0, 0, 0])

    def test_no_gap_within_the_margins(self):
        self.assertEqual(scored((5, 5), ["a-b", "-".join("abcdefghi"), "ab-c"], EVERY), [7, 3, 0, 0, 0])
        self.assertEqual(scored((2, 1), ["a-b", "ba"], ["a1b"]), [1, 2, 0, 0, 0])
        self.assertEqual(scored((1, 2), ["a-b", "ba"], ["b1a"]), [1, 2, 0, 0, 0])

    def test_margins_of_0_part_no_words_end(self):
        self.assertEqual(scored((0, 0), ["a-b", "ab-c"], ["1a", "b1", ".1a", "c1."]), [4, 1, 1, 0, 1])
        self.assertEqual(scored((0, 0), ["cd"], [".1c", "d1.", "1c", "d1"]), [4, 1, 0, 0, 0])

    def test_margins_of_5(self):
        self.assertEqual(scored((5, 5), ["abcde-fghij"], []), [0, 0, 0, 0, 1])
        self.assertEqual(scored((5, 5), ["abcde-fghij", "a-bcdefghik"], ["e1f"]), [1, 1, 1, 1, 0])

    def test_a_gap_outside_is_no_hit(self):
        self.assertEqual(scored((2, 1), ["a-b-cd"], ["a1b1c"]), [1, 1, 1, 0, 0])
        self.assertEqual(scored((1, 2), ["ab-c-d"], ["b1c1d"]), [1, 1, 1, 0, 0])

    def test_a_gap_outside_is_no_fault(self):
        self.assertEqual(scored((2, 1), ["abcd"], ["a1b"]), [1, 1, 0, 0, 0])
        self.assertEqual(scored((1, 2), ["abcd"], ["c1d"]), [1, 1, 0, 0, 0])
        self.assertEqual(scored((2, 2), ["abcd"], ["a1b1c1d"]), [1, 0, 0, 1, 0])

    def test_a_gap_outside_is_no_miss(self):
        self.assertEqual(scored((2, 1), ["a-bcd"], []), [0, 1, 0, 0, 0])
        self.assertEqual(scored((1, 2), ["abc-d"], []), [0, 1, 0, 0, 0])
        self.assertEqual(scored((2, 2), ["a-b-c-d"], []), [0, 0, 0, 0, 1])


class PatternsNow(unittest.TestCase):
    def test_not_those_of_the_list(self):
        self.assertEqual(scored((1, 1), ["xa-by"], ["a2b"]), [1, 0, 0, 0, 1])
        self.assertEqual(scored((1, 1), ["xa-by"], ["a2b"], round_of(3, 2, 1, 1, 1)), [3, 1, 1, 0, 0])
        self.assertEqual(scored((1, 1), ["xaby"], ["a1b"], round_of(2, 2, 1, 1, 1)), [3, 1, 0, 0, 0])

    def test_behind_undo_and_forget(self):
        made = [round_of(1, 2, 1, 1, 1), score(), round_of(2, 3, 1, 1, 1), score()]
        told = ask_after(WORKED, *made, undo(), score(), forget(), score())
        self.assertEqual(told[1::2], [[4, 2, 2, 1, 1], [5, 2, 2, 0, 1], [4, 2, 2, 1, 1], [0, 0, 0, 0, 3]])

    def test_as_rounds_answer(self):
        told = ask_after(WORKED, rounds(1, 2, 1, 1, 1, 2, 3, 1, 1, 1), score(), rounds())
        self.assertEqual(told, [[5, 2, 2, 0, 1]] * 3)

    def test_behind_a_wrong_text_and_another_list(self):
        told = ask(load(WORKED), round_of(1, 2, 1, 1, 1), load("!"), score(), load(text_of((1, 1), ["a-b"])), score())
        self.assertEqual([told[3], told[5]], [[4, 2, 2, 1, 1], [0, 0, 0, 0, 1]])

    def test_it_changes_nothing(self):
        told = ask_after(WORKED, round_of(1, 2, 1, 1, 1), score(), score(), part("able"), undo(), score())
        self.assertEqual(told[1:], [[4, 2, 2, 1, 1], [4, 2, 2, 1, 1], [1, 1], [0], [0, 0, 0, 0, 3]])


if __name__ == "__main__":
    unittest.main()
