"""The document's promises 1 to 5, over lists made by chance with a fixed beginning and over chosen ones."""

import random
import unittest

from helper import (WORKED, ask_after, candidates, count, forget, named, part, patterns, rounds, round_of, score, shown,
                    text_of, undo)

NOTHING_HURT = (1, 1000, 0)


def chance_words(chance, number, longest, letters, shortest=2):
    """Give words of chance letters, no two with the same ones, parted by chance."""
    words = {}
    while len(words) < number:
        plain = "".join([chance.choice(letters) for at in range(chance.randint(shortest, longest))])
        words[plain] = "".join([letter + chance.choice(["", "", "-"]) for letter in plain[:-1]]) + plain[-1]
    return list(words.values())


def chance_margins(chance):
    return chance.randint(0, 2), chance.randint(0, 2)


def chance_texts(number=12):
    chance = random.Random(5)
    for step in range(number):
        yield text_of(chance_margins(chance), chance_words(chance, 8, 9, "abc"))


def digits_of(pattern):
    """Give a pattern's digit at each of its gaps."""
    digits = [0]
    for sign in pattern.strip("."):
        if sign.isdigit():
            digits[-1] = int(sign)
        else:
            digits.append(0)
    return digits


def held_digits(answer):
    """Give what an answer of patterns tells: for each pattern's letters and points its digits."""
    return {"".join([sign for sign in one if not sign.isdigit()]): digits_of(one) for one in named(answer)}


class TakesWhatReaches(unittest.TestCase):
    """Promise 1."""

    def test_just_the_candidates_that_reach_the_threshold(self):
        for text in chance_texts():
            for gain, loss, threshold in ((1, 1, 1), (2, 3, 1), (3, 0, 4), (0, 0, 0), (1, 1, 0)):
                made = round_of(1, 3, gain, loss, threshold)
                looked, made, held = ask_after(text, candidates(1, 3), made, patterns())
                for pattern, helps, hurts in shown(looked)[1]:
                    piece = pattern.replace("1", "")
                    taken = held_digits(held).get(piece, [0] * 7)[pattern.lstrip(".").index("1")] == 1
                    self.assertEqual(taken, gain * helps >= threshold + loss * hurts)

    def test_nothing_else_is_taken(self):
        for text in chance_texts():
            looked, made, held = ask_after(text, candidates(1, 4), round_of(1, 4, 1, 1, 1), patterns())
            number, told = shown(looked)
            taken = [(helps, hurts) for pattern, helps, hurts in told if helps > hurts]
            if number <= 20:
                self.assertEqual(made[:4], [len(taken), number, sum(helps for helps, hurts in taken),
                                            sum(hurts for helps, hurts in taken)])
                self.assertEqual(sum(len([1 for digit in digits if digit]) for digits in held_digits(held).values()),
                                 len(taken))

    def test_each_piece_at_a_gap_where_its_level_would_help(self):
        number, told = shown(ask_after(text_of((1, 1), ["ab-cd"]), candidates(1, 3))[0])
        self.assertEqual([pattern for pattern, helps, hurts in told], [".ab1", "ab1c", "b1cd", "1cd."])

    def test_the_counts_are_exact(self):
        for text in chance_texts():
            number, told = shown(ask_after(text, candidates(1, 2))[0])
            counted = ask_after(text, *[count(pattern) for pattern, helps, hurts in told][:19])
            self.assertEqual(counted, [[helps, hurts] for pattern, helps, hurts in told][:19])


class TakesNoMore(unittest.TestCase):
    """Promise 2."""

    def assert_falling(self, text, several):
        """Each of these rounds, made over the same patterns, takes no more than those before it."""
        told = ask_after(text, *[call for numbers in several for call in (round_of(*numbers), undo())])
        taken = [answer[0] for answer in told[::2]]
        self.assertEqual(taken, sorted(taken, reverse=True), (text, several))
        return taken

    def assert_within(self, text, several):
        """What each of these rounds takes is taken by those before it too."""
        earlier = None
        for numbers in several:
            made, held = ask_after(text, round_of(*numbers), patterns())
            taken = {(piece, gap) for piece, digits in held_digits(held).items()
                     for gap, digit in enumerate(digits) if digit}
            self.assertEqual(len(taken), made[0])
            self.assertTrue(earlier is None or taken <= earlier)
            earlier = taken

    def test_with_a_greater_threshold(self):
        for text in list(chance_texts()) + [WORKED]:
            for length in (1, 2, 3, 5):
                self.assert_falling(text, [(1, length, 2, 1, threshold) for threshold in range(9)])
                self.assert_falling(text, [(1, length, 1, 0, threshold) for threshold in (0, 1, 2, 3, 4, 9, 99, 1000)])
            self.assert_within(text, [(1, 3, 2, 1, threshold) for threshold in (0, 1, 2, 3, 5)])

    def test_where_hurting_counts_more(self):
        for text in list(chance_texts()) + [WORKED]:
            for length in (1, 2, 3, 5):
                self.assert_falling(text, [(1, length, 3, loss, 1) for loss in range(9)])
                self.assert_falling(text, [(1, length, 9, loss, 0) for loss in (0, 1, 2, 4, 8, 9, 18, 1000)])
            self.assert_within(text, [(1, 3, 3, loss, 1) for loss in (0, 1, 2, 3, 5)])

    def test_over_earlier_rounds_and_with_even_levels(self):
        taken = []
        for text in chance_texts():
            before = [number for numbers in ((1, 1, 1, 0, 1), (2, 2, 1, 1, 1)) for number in numbers]
            for level, length in ((2, 3), (3, 2), (4, 4)):
                for several in ([(level, length, 2, 1, threshold) for threshold in range(6)],
                                [(level, length, 2, loss, 1) for loss in range(6)]):
                    told = ask_after(text, rounds(*before), *[call for numbers in several
                                                              for call in (round_of(*numbers), undo())])
                    falling = [answer[0] for answer in told[1::2]]
                    self.assertEqual(falling, sorted(falling, reverse=True))
                    taken.append(falling[0] - falling[-1])
        self.assertGreater(max(taken), 0)

    def test_it_falls_where_it_can(self):
        self.assertEqual(self.assert_falling(WORKED, [(1, 3, 1, loss, 1) for loss in (0, 1, 2)]), [10, 7, 5])
        self.assertEqual(self.assert_falling(WORKED, [(1, 3, 1, 1, at) for at in (0, 1, 2, 3)]), [7, 7, 0, 0])


class GivesTheGreaterLevel(unittest.TestCase):
    """Promise 3."""

    odd = (1, 2, 1, 0, 1, 2, 2, 1, 1, 1)
    even = (1, 2, 1, 0, 1)

    def test_each_gap_of_a_pattern_has_the_greater_digit(self):
        for text in chance_texts():
            told = ask_after(text, rounds(*self.odd), patterns(), candidates(3, 2), round_of(3, 2, 0, 0, 0), patterns())
            expected = held_digits(told[1])
            number, taken = shown(told[2])
            for pattern, helps, hurts in taken:
                piece = pattern.replace("3", "")
                digits = expected.get(piece, [0] * len(digits_of(pattern)))
                expected[piece] = [max(pair) for pair in zip(digits, digits_of(pattern))]
            if number <= 20:
                self.assertEqual(held_digits(told[4]), expected)
                self.assertEqual(list(held_digits(told[4])), list(expected))

    def test_all_that_helps_taken_leaves_no_miss(self):
        for text in chance_texts():
            for length in range(1, 5):
                made, after = ask_after(text, round_of(1, length, 1, 0, 0), score())
                self.assertGreaterEqual(made[0], 0)
                self.assertEqual(after[4], 0)

    def test_a_new_odd_level_above_all_leaves_no_miss_more(self):
        fewer = []
        for text in chance_texts(30):
            for numbers in ((3, 2, 1, 0, 2), (3, 3, 1, 1, 0), (5, 4, 0, 0, 0), (9, 1, 2, 1, 1)):
                first, made, after = ask_after(text, rounds(*self.odd), round_of(*numbers), score())
                self.assertLessEqual(after[4], first[4])
                fewer.append(first[4] - after[4])
        self.assertGreater(max(fewer), 0)

    def test_a_new_even_level_above_all_leaves_no_fault_more(self):
        fewer = []
        for text in chance_texts(30):
            for numbers in ((2, 2, 1, 0, 2), (2, 3, 1, 1, 0), (4, 4, 0, 0, 0), (8, 1, 2, 1, 1)):
                first, made, after = ask_after(text, rounds(*self.even), round_of(*numbers), score())
                self.assertLessEqual(after[3], first[3])
                fewer.append(first[3] - after[3])
        self.assertGreater(max(fewer), 0)

    def test_a_lesser_level_changes_nothing(self):
        text = text_of((1, 1), ["a-b"], ["a4b"])
        told = ask_after(text, round_of(1, 2, 1, 0, 0), score(), round_of(5, 2, 1, 0, 0), score(), part("ab"))
        self.assertEqual(told, [[3, 3, 3, 0, 3], [3, 0, 0, 0, 1], [3, 3, 3, 0, 3], [3, 1, 1, 0, 0], [1, 1]])


class OneAfterTheOther(unittest.TestCase):
    """Promise 4."""

    several = [(1, 1, 1, 1, 1), (2, 2, 1, 1, 1), (3, 3, 1, 1, 1), (4, 4, 1, 1, 1)]

    def test_each_over_what_those_before_have_left(self):
        told = ask_after(WORKED, round_of(1, 2, 1, 1, 1), candidates(1, 2), candidates(2, 2))
        self.assertEqual(shown(told[1]), (3, [("ab1", 1, 2), ("b1l", 1, 2), ("1le", 1, 2)]))
        self.assertEqual(shown(told[2]), (3, [(".a2", 1, 0), ("a2b", 1, 2), ("2bl", 1, 2)]))

    def test_rounds_as_round_by_round(self):
        flat = [number for numbers in self.several for number in numbers]
        for text in chance_texts():
            single = ask_after(text, *[round_of(*numbers) for numbers in self.several], score(), patterns(),
                               candidates(5, 2))
            self.assertEqual(ask_after(text, rounds(*flat), patterns(), candidates(5, 2)), single[-3:])

    def test_each_round_can_be_undone(self):
        looks = [patterns(), score(), candidates(5, 2)]
        for text in chance_texts():
            made = [round_of(*numbers) for numbers in self.several]
            seen = [ask_after(text, *made[:size], *looks)[size:] for size in range(5)]
            back = ask_after(text, *made, undo(), *looks, undo(), *looks, undo(), *looks)[4:]
            for step in range(3):
                undone = back[4 * step:4 * step + 4]
                self.assertEqual(undone, [seen[3 - step][0][:1]] + seen[3 - step])
            self.assertEqual(ask_after(text, *made, *[undo()] * 4, *looks)[8:], seen[0])
            self.assertEqual(ask_after(text, *made, forget(), *looks)[5:], seen[0])

    def test_behind_undo_a_round_is_made_as_if_there_had_been_none(self):
        for text in chance_texts():
            other = round_of(1, 3, 1, 1, 1)
            told = ask_after(text, round_of(1, 1, 1, 0, 0), undo(), other, patterns())
            self.assertEqual(told[2:], ask_after(text, other, patterns()))


class LearnsExactly(unittest.TestCase):
    """Promise 5."""

    every_length = [number for length in range(1, 9) for number in (1, length) + NOTHING_HURT]

    def assert_learned(self, text, number):
        told = ask_after(text, rounds(*self.every_length), score())[1]
        self.assertEqual([told[1], told[3], told[4]], [number, 0, 0], text)

    def test_words_of_at_most_six_letters(self):
        chance = random.Random(17)
        for step in range(60):
            words = chance_words(chance, 9, 6, "ab" if step % 2 else "abcd")
            self.assert_learned(text_of(chance_margins(chance), words), 9)

    def test_all_lengths_in_any_order_with_any_odd_level(self):
        chance = random.Random(29)
        for step in range(40):
            text = text_of(chance_margins(chance), chance_words(chance, 12, 6, "abc"))
            lengths = list(range(1, 9))
            chance.shuffle(lengths)
            level = chance.choice([1, 3, 5, 7, 9])
            told = ask_after(text, *[round_of(level, length, *NOTHING_HURT) for length in lengths], score())
            self.assertEqual([len(answer) for answer in told], [5] * 9)
            self.assertEqual([told[-1][1], told[-1][3], told[-1][4]], [12, 0, 0], text)

    def test_as_many_words_as_a_list_has(self):
        chance = random.Random(31)
        for letters in ("ab", "abcdefgh"):
            for lengths in ((1, 2, 3, 4, 5, 6, 7, 8), (8, 7, 6, 5, 4, 3, 2, 1), (3, 5, 7, 8, 6, 4, 2, 1)):
                text = text_of((1, 1), chance_words(chance, 24, 6, letters, 4))
                told = ask_after(text, *[round_of(1, length, *NOTHING_HURT) for length in lengths], score())
                self.assertNotIn([-7], told)
                self.assertEqual([told[-1][1], told[-1][3], told[-1][4]], [24, 0, 0], text)

    def test_many_patterns(self):
        chance = random.Random(43)
        words = ["-".join(word.replace("-", "")) for word in chance_words(chance, 24, 6, "abcdefghijklmnop", 6)]
        text = text_of((1, 1), words)
        told = ask_after(text, round_of(1, 4, *NOTHING_HURT), rounds(*self.every_length), score())
        self.assertGreater(told[0][4], 100)
        self.assertEqual(told[2][1:], [24, 120, 0, 0])

    def test_each_is_parted_just_where_it_may_be(self):
        chance = random.Random(37)
        for step in range(20):
            words = chance_words(chance, 15, 6, "abc")
            told = ask_after(text_of((1, 1), words), rounds(*self.every_length),
                             *[part(word.replace("-", "")) for word in words])
            for word, answer in zip(words, told[1:]):
                may = [len(word[:at].replace("-", "")) for at, sign in enumerate(word) if sign == "-"]
                self.assertEqual(answer, [len(may)] + may)

    def test_beside_longer_words_that_are_not_to_be_hurt(self):
        chance = random.Random(41)
        for step in range(20):
            words = chance_words(chance, 10, 6, "abc") + chance_words(chance, 3, 12, "abc", 7)
            told = ask_after(text_of((1, 1), words), rounds(*self.every_length),
                             *[part(word.replace("-", "")) for word in words[:10]])
            self.assertEqual(told[0][3], 0)
            for word, answer in zip(words, told[1:]):
                may = [len(word[:at].replace("-", "")) for at, sign in enumerate(word) if sign == "-"]
                self.assertEqual(answer[1:], may)

    def test_words_that_hold_one_another(self):
        self.assert_learned(text_of((1, 1), ["a-a", "aaa", "a-aaa", "aa-aaa", "aaa-aaa"]), 5)

    def test_a_longer_piece_where_all_shorter_ones_hurt(self):
        text = text_of((1, 1), ["aa-aaa", "aaaaab", "baaaaa"])
        for shorter in range(7):
            told = ask_after(text, rounds(*self.every_length[:5 * shorter]))[0]
            self.assertEqual(told[1:], [2, 0, 0, 1], shorter)
        self.assert_learned(text, 3)

    def test_six_letters_need_the_length_of_eight(self):
        text = text_of((1, 1), ["aaa-aaa", "aaaaaab", "baaaaaa"])
        self.assertEqual(ask_after(text, rounds(*self.every_length[:35]))[0][1:], [2, 0, 0, 1])
        told = ask_after(text, rounds(*self.every_length), patterns())
        self.assertEqual([told[0], named(told[1])], [[1, 3, 1, 0, 0], [".aaa1aaa."]])

    def test_what_is_learned_can_be_undone(self):
        told = ask_after(WORKED, rounds(*self.every_length), score(), undo(), score(), undo())
        self.assertEqual(told[1][1:], [3, 3, 0, 0])
        self.assertEqual(told[2:], [[0], [0, 0, 0, 0, 3], [-8]])


if __name__ == "__main__":
    unittest.main()
