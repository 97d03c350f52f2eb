"""Candidates and counts: which there are, in which order, how often they help and hurt."""

import unittest

from helper import ask_after, candidates, count, round_of, rounds, shown, text_of


def told_of(text, level, length):
    return shown(ask_after(text, candidates(level, length))[0])


def names_of(text, level, length):
    number, told = told_of(text, level, length)
    assert number == len(told)
    return [pattern for pattern, helps, hurts in told]


class Pieces(unittest.TestCase):
    word = text_of((1, 1), ["ab-cd"])

    def test_each_length_of_a_short_word(self):
        expected = {
            1: ["b1", "1c"],
            2: ["ab1", "b1c", "1cd"],
            3: [".ab1", "ab1c", "b1cd", "1cd."],
            4: [".ab1c", "ab1cd", "b1cd."],
            5: [".ab1cd", "ab1cd."],
            6: [".ab1cd."],
            7: [],
            8: [],
        }
        for length, names in expected.items():
            self.assertEqual(names_of(self.word, 1, length), names, length)

    def test_a_gap_beside_the_first_and_the_last_letter(self):
        self.assertEqual(names_of(text_of((1, 1), ["a-bc"]), 1, 2), [".a1", "a1b", "1bc"])
        self.assertEqual(names_of(text_of((1, 1), ["ab-c"]), 1, 2), ["ab1", "b1c", "1c."])
        self.assertEqual(names_of(text_of((1, 1), ["a-b"]), 1, 2), [".a1", "a1b", "1b."])
        self.assertEqual(names_of(text_of((1, 1), ["a-b"]), 1, 4), [".a1b."])

    def test_an_edge_alone_is_no_piece(self):
        self.assertEqual(names_of(text_of((0, 0), ["a-b"]), 1, 1), ["a1", "1b"])

    def test_six_letters_and_no_more(self):
        six = text_of((1, 1), ["abc-def"])
        self.assertEqual(names_of(six, 1, 6), [".abc1de", "abc1def", "bc1def."])
        self.assertEqual(names_of(six, 1, 7), [".abc1def", "abc1def."])
        self.assertEqual(names_of(six, 1, 8), [".abc1def."])
        seven = text_of((1, 1), ["abc-defg"])
        self.assertEqual(names_of(seven, 1, 6), [".abc1de", "abc1def", "bc1defg", "c1defg."])
        self.assertEqual(names_of(seven, 1, 7), [".abc1def", "bc1defg."])
        self.assertEqual(names_of(seven, 1, 8), [])

    def test_five_letters_with_both_edges(self):
        self.assertEqual(names_of(text_of((1, 1), ["ab-cde"]), 1, 7), [".ab1cde."])

    def test_the_level_is_told(self):
        for level in (1, 3, 5, 7, 9):
            self.assertEqual(names_of(self.word, level, 2), [f"ab{level}", f"b{level}c", f"{level}cd"])

    def test_only_gaps_within_the_margins(self):
        self.assertEqual(names_of(text_of((2, 2), ["a-bc-d"]), 1, 2), [])
        self.assertEqual(names_of(text_of((2, 2), ["a-b-c-d"]), 1, 2), ["ab1", "b1c", "1cd"])
        self.assertEqual(names_of(text_of((1, 3), ["a-b-c-d"]), 1, 1), ["a1", "1b"])
        self.assertEqual(names_of(text_of((3, 1), ["a-b-c-d"]), 1, 1), ["c1", "1d"])


class Order(unittest.TestCase):
    def test_words_then_gaps_then_pieces_from_the_front_on(self):
        text = text_of((1, 1), ["x-yz-w", "p-q"])
        self.assertEqual(names_of(text, 1, 2), [".x1", "x1y", "1yz", "yz1", "z1w", "1w.", ".p1", "p1q", "1q."])

    def test_each_is_told_once_where_it_comes_first(self):
        text = text_of((1, 1), ["b-ca", "a-b-ca"])
        self.assertEqual(told_of(text, 1, 1), (4, [("b1", 2, 0), ("1c", 2, 0), ("a1", 1, 0), ("1b", 1, 0)]))

    def test_once_within_one_word_too(self):
        text = text_of((1, 1), ["a-a-a"])
        self.assertEqual(told_of(text, 1, 1), (2, [("a1", 2, 0), ("1a", 2, 0)]))
        expected = [(".a1", 1, 0), ("a1a", 2, 0), ("1aa", 1, 0), ("aa1", 1, 0), ("1a.", 1, 0)]
        self.assertEqual(told_of(text, 1, 2), (5, expected))

    def test_an_earlier_word_where_it_only_hurts_is_not_where_it_comes_first(self):
        text = text_of((1, 1), ["xab", "c-d", "a-b"])
        self.assertEqual(told_of(text, 1, 1), (4, [("c1", 1, 0), ("1d", 1, 0), ("a1", 1, 1), ("1b", 1, 1)]))

    def test_the_first_twenty_are_told_and_all_are_counted(self):
        words = ["-".join("abcdefgh"), "-".join("ijklmnop"), "-".join("qrstuvwx")]
        number, told = told_of(text_of((1, 1), words), 1, 1)
        self.assertEqual(number, 3 * 14)
        self.assertEqual(len(told), 20)
        self.assertEqual([told[0][0], told[1][0], told[19][0]], ["a1", "1b", "1l"])

    def test_just_twenty_and_one_more(self):
        self.assertEqual(len(names_of(text_of((1, 1), ["-".join("abcdefghijk")]), 1, 1)), 20)
        number, told = told_of(text_of((1, 1), ["-".join("abcdefghijk"), "a-z"]), 1, 1)
        self.assertEqual((number, len(told)), (21, 20))

    def test_none(self):
        self.assertEqual(told_of(text_of((1, 1)), 1, 2), (0, []))
        self.assertEqual(told_of(text_of((1, 1), ["abc"]), 1, 2), (0, []))
        self.assertEqual(told_of(text_of((1, 1), ["a-bc"]), 2, 2), (0, []))


class HelpingAndHurting(unittest.TestCase):
    def test_an_odd_level_helps_where_it_may_be_parted_and_is_not(self):
        text = text_of((1, 1), ["a-b-c"], ["a1b"])
        self.assertEqual(names_of(text, 1, 2), ["ab1", "b1c", "1c."])

    def test_an_odd_level_hurts_where_it_may_not_be_parted_and_is_not(self):
        text = text_of((1, 1), ["a-b", "abc", "abd", "abe"], ["a1bc"])
        self.assertEqual(ask_after(text, count("a1b")), [[1, 2]])

    def test_an_even_level_helps_where_it_is_parted_and_may_not_be(self):
        text = text_of((1, 1), ["a-b", "abc", "b-cd"], ["a1b"])
        self.assertEqual(told_of(text, 2, 2), (3, [(".a2", 1, 1), ("a2b", 1, 1), ("2bc", 1, 0)]))

    def test_an_even_level_hurts_where_it_is_parted_and_may_be(self):
        text = text_of((1, 1), ["a-b", "a-bc", "abd", "xa-by"], ["a1b"])
        self.assertEqual(ask_after(text, count("a2b")), [[1, 3]])

    def test_an_even_level_may_be_greater_or_not(self):
        text = text_of((1, 1), ["ab"], ["a5b"])
        for level in (2, 4, 6, 8):
            self.assertEqual(names_of(text, level, 2), [f".a{level}", f"a{level}b", f"{level}b."])

    def test_an_odd_level_may_be_greater_or_not(self):
        text = text_of((1, 1), ["a-b"], ["a4b"])
        for level in (1, 3, 5, 7, 9):
            self.assertEqual(ask_after(text, count(f"a{level}b")), [[1, 0]])

    def test_all_levels_by_the_patterns_now(self):
        text = text_of((1, 1), ["a-b", "cab"])
        told = ask_after(text, count("a1b"), count("a2b"), round_of(1, 2, 1, 0, 0), count("a1b"), count("a2b"))
        self.assertEqual(told[:2] + told[3:], [[1, 1], [0, 0], [0, 0], [1, 1]])

    def test_nothing_counts_outside_the_margins(self):
        self.assertEqual(ask_after(text_of((2, 2), ["a-bcd", "abce"]), count("a1b")), [[0, 0]])
        self.assertEqual(ask_after(text_of((2, 2), ["xa-by", "zxaby", "abab"]), count("a1b")), [[1, 1]])


class Counts(unittest.TestCase):
    text = text_of((1, 1), ["ta-ble", "ca-ble", "ab-le"])

    def counts(self, *patterns):
        return ask_after(self.text, *[count(pattern) for pattern in patterns])

    def test_where_a_candidate_stands(self):
        self.assertEqual(self.counts("a1b", "ab1", "1bl", "ta1", "a1"), [[2, 1], [1, 2], [2, 1], [1, 0], [2, 1]])

    def test_with_points(self):
        self.assertEqual(self.counts(".a1b", ".ab1", "a1b.", "1le.", ".ta1ble."),
                         [[0, 1], [1, 0], [0, 0], [1, 2], [1, 0]])

    def test_each_gap_where_it_stands(self):
        text = text_of((1, 1), ["a-baab", "abab-a-ba"])
        self.assertEqual(ask_after(text, count("a1b"), count("1b"), count("b1a"), count("1a")),
                         [[2, 3], [2, 3], [1, 3], [1, 4]])

    def test_patterns_that_overlap(self):
        text = text_of((1, 1), ["aaa-aa"])
        self.assertEqual(ask_after(text, count("a1a"), count("aa1a"), count("1aaa"), count("aa1"), count("aaa1aa")),
                         [[1, 3], [1, 2], [0, 2], [1, 2], [1, 0]])

    def test_what_fits_nowhere(self):
        self.assertEqual(self.counts("z1", "b1a", "table1", "1abcdef", ".b1l"), [[0, 0]] * 5)

    def test_a_digit_at_a_words_edge(self):
        self.assertEqual(self.counts("1t", "e1", ".1ta", "le1.", "1table"), [[0, 0]] * 5)

    def test_even_levels(self):
        self.assertEqual(self.counts("a2b", "a4", "8b"), [[0, 0]] * 3)

    def test_counts_are_those_the_candidates_tell(self):
        for level in range(1, 10):
            for length in range(1, 9):
                made = round_of(1, 2, 1, 1, 1)
                number, told = shown(ask_after(self.text, made, candidates(level, length))[1])
                for pattern, helps, hurts in told:
                    self.assertEqual(ask_after(self.text, made, count(pattern))[1], [helps, hurts])

    def test_asking_changes_nothing(self):
        asked = ask_after(self.text, candidates(1, 2), count("a1b"), rounds(), candidates(1, 2), count("a1b"), rounds())
        self.assertEqual(asked[:3], asked[3:])


if __name__ == "__main__":
    unittest.main()
