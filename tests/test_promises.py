"""The document's promises 1 to 5, as far as the calls are there that show them."""

import random
import unittest

from helper import WORKED, ask_after, candidates, count, learner_with, rounds, round_of, shown, text_of
from partrounds.learning import round_of as make_round

NOTHING_HURT = (1, 1000, 0)


def chance_words(chance, number, longest, letters):
    """Give words of chance letters, no two with the same ones, parted by chance."""
    words = {}
    while len(words) < number:
        plain = "".join([chance.choice(letters) for at in range(chance.randint(2, longest))])
        words[plain] = "".join([letter + chance.choice(["", "", "-"]) for letter in plain[:-1]]) + plain[-1]
    return list(words.values())


def chance_texts():
    chance = random.Random(5)
    for step in range(12):
        yield text_of((chance.randint(0, 2), chance.randint(0, 2)), chance_words(chance, 8, 9, "abc"))


class TakesWhatReaches(unittest.TestCase):
    """Promise 1."""

    def taken(self, text, numbers):
        learner = learner_with(text)
        make_round(learner, list(numbers))
        return learner

    def test_just_the_candidates_that_reach_the_threshold(self):
        for text in chance_texts():
            number, told = shown(ask_after(text, candidates(1, 3))[0])
            for gain, loss, threshold in ((1, 1, 1), (2, 3, 1), (3, 0, 4), (0, 0, 0), (1, 1, 0)):
                learner = self.taken(text, (1, 3, gain, loss, threshold))
                for pattern, helps, hurts in told:
                    piece = tuple([ord(sign) for sign in pattern if sign != "1"])
                    gap = pattern.lstrip(".").index("1")
                    digits = learner.patterns.get(piece, [0] * 7)
                    self.assertEqual(digits[gap] == 1, gain * helps >= threshold + loss * hurts)

    def test_each_piece_at_a_gap_where_its_level_would_help(self):
        number, told = shown(ask_after(text_of((1, 1), ["ab-cd"]), candidates(1, 3))[0])
        self.assertEqual([pattern for pattern, helps, hurts in told], [".ab1", "ab1c", "b1cd", "1cd."])

    def test_the_counts_are_exact(self):
        for text in chance_texts():
            number, told = shown(ask_after(text, candidates(1, 2))[0])
            counted = ask_after(text, *[count(pattern) for pattern, helps, hurts in told][:19])
            self.assertEqual(counted, [[helps, hurts] for pattern, helps, hurts in told][:19])


class TakesNoMore(unittest.TestCase):
    """Promise 2."""

    def taken(self, text, gain, loss, threshold):
        return ask_after(text, round_of(1, 3, gain, loss, threshold))[0][0]

    def test_with_a_greater_threshold(self):
        for text in list(chance_texts()) + [WORKED]:
            taken = [self.taken(text, 2, 1, threshold) for threshold in range(12)]
            self.assertEqual(taken, sorted(taken, reverse=True))
            self.assertLess(taken[-1], taken[0])

    def test_where_hurting_counts_more(self):
        for text in list(chance_texts()) + [WORKED]:
            taken = [self.taken(text, 3, loss, 1) for loss in range(12)]
            self.assertEqual(taken, sorted(taken, reverse=True))

    def test_it_falls_where_it_can(self):
        self.assertEqual([self.taken(WORKED, 1, loss, 1) for loss in (0, 1, 2)], [10, 7, 5])
        self.assertEqual([self.taken(WORKED, 1, 1, threshold) for threshold in (0, 1, 2, 3)], [7, 7, 0, 0])


class GivesTheGreaterLevel(unittest.TestCase):
    """Promise 3."""

    def test_a_new_odd_level_leaves_no_miss_more(self):
        for text in chance_texts():
            for length in range(1, 5):
                before, made, after = ask_after(text, rounds(), round_of(1, length, 1, 0, 0), rounds())
                self.assertGreaterEqual(made[0], 0)
                self.assertEqual(after[4], 0)

    def test_a_new_odd_level_above_all_leaves_no_miss_more(self):
        for text in chance_texts():
            first = rounds(1, 2, 1, 0, 1, 2, 2, 1, 1, 1)
            for numbers in ((3, 2, 1, 0, 2), (3, 3, 1, 1, 0), (5, 4, 0, 0, 0)):
                before, made, after = ask_after(text, first, round_of(*numbers), rounds())
                self.assertLessEqual(after[4], before[4])

    def test_a_new_even_level_above_all_leaves_no_fault_more(self):
        for text in chance_texts():
            first = rounds(1, 2, 1, 0, 1)
            for numbers in ((2, 2, 1, 0, 2), (2, 3, 1, 1, 0), (4, 4, 0, 0, 0)):
                before, made, after = ask_after(text, first, round_of(*numbers), rounds())
                self.assertLessEqual(after[3], before[3])

    def test_a_lesser_level_changes_nothing(self):
        text = text_of((1, 1), ["a-b"], ["a4b"])
        told = ask_after(text, round_of(1, 2, 1, 0, 0), rounds(), round_of(5, 2, 1, 0, 0), rounds())
        self.assertEqual(told, [[3, 3, 3, 0, 3], [3, 0, 0, 0, 1], [3, 3, 3, 0, 3], [3, 1, 1, 0, 0]])


class OneAfterTheOther(unittest.TestCase):
    """Promise 4."""

    def test_each_over_what_those_before_have_left(self):
        told = ask_after(WORKED, round_of(1, 2, 1, 1, 1), candidates(1, 2), candidates(2, 2))
        self.assertEqual(shown(told[1]), (3, [("ab1", 1, 2), ("b1l", 1, 2), ("1le", 1, 2)]))
        self.assertEqual(shown(told[2]), (3, [(".a2", 1, 0), ("a2b", 1, 2), ("2bl", 1, 2)]))

    def test_rounds_as_round_by_round(self):
        several = [(1, 1, 1, 1, 1), (2, 2, 1, 1, 1), (3, 3, 1, 1, 1), (4, 4, 1, 1, 1)]
        flat = [number for numbers in several for number in numbers]
        for text in chance_texts():
            single = ask_after(text, *[round_of(*numbers) for numbers in several], rounds(), candidates(5, 2))
            self.assertEqual(ask_after(text, rounds(*flat), candidates(5, 2)), single[-2:])


class LearnsExactly(unittest.TestCase):
    """Promise 5."""

    every_length = [number for length in range(1, 9) for number in (1, length) + NOTHING_HURT]

    def assert_learned(self, text, number):
        told = ask_after(text, rounds(*self.every_length))[0]
        self.assertEqual([told[1], told[3], told[4]], [number, 0, 0], text)

    def test_words_of_at_most_six_letters(self):
        chance = random.Random(17)
        for step in range(30):
            words = chance_words(chance, 9, 6, "ab" if step % 2 else "abcd")
            self.assert_learned(text_of((chance.randint(0, 2), chance.randint(0, 2)), words), 9)

    def test_words_that_hold_one_another(self):
        self.assert_learned(text_of((1, 1), ["a-a", "aaa", "a-aaa", "aa-aaa", "aaa-aaa"]), 5)

    def test_a_longer_piece_where_all_shorter_ones_hurt(self):
        text = text_of((1, 1), ["aa-aaa", "aaaaab", "baaaaa"])
        for shorter in range(7):
            told = ask_after(text, rounds(*self.every_length[:5 * shorter]))[0]
            self.assertEqual(told[1:], [2, 0, 0, 1], shorter)
        self.assert_learned(text, 3)


if __name__ == "__main__":
    unittest.main()
