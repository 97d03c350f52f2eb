"""Rounds: what they take, what they answer, how what is taken is put to the patterns."""

import unittest

from helper import (WORKED, ask, ask_after, candidates, count, forget, load, named, patterns, rounds, round_of, score,
                    text_of)

TRAP = text_of((1, 1), ["a-b", "xa-b", "aby", "c-d", "cdx", "cdy"])


def held_after(text, *rounds_made):
    """Give the patterns after some rounds, as texts, in order."""
    told = ask_after(text, *[round_of(*numbers) for numbers in rounds_made], patterns())
    assert all(answer[0] >= 0 for answer in told)
    return named(told[-1])


class Taking(unittest.TestCase):
    """TRAP has seven candidates of length 2; the first test tells how some help and hurt."""

    def taken(self, gain, loss, threshold):
        return held_after(TRAP, (1, 2, gain, loss, threshold))

    def test_how_they_help_and_hurt(self):
        told = ask_after(TRAP, *[count(name) for name in (".a1", "a1b", "1b.", "xa1", ".c1", "c1d", "1d.")])
        self.assertEqual(told, [[1, 1], [2, 1], [2, 0], [1, 0], [1, 2], [1, 2], [1, 0]])

    def test_what_a_round_answers(self):
        self.assertEqual(ask_after(TRAP, round_of(1, 2, 1, 1, 1)), [[4, 7, 6, 1, 4]])
        self.assertEqual(ask_after(TRAP, round_of(1, 2, 1, 0, 0)), [[7, 7, 9, 6, 7]])
        self.assertEqual(ask_after(TRAP, round_of(1, 2, 1, 1, 900)), [[0, 7, 0, 0, 0]])

    def test_what_is_taken_is_put_behind_in_order(self):
        self.assertEqual(self.taken(1, 1, 1), ["a1b", "1b.", "xa1", "1d."])
        self.assertEqual(self.taken(1, 0, 0), [".a1", "a1b", "1b.", "xa1", ".c1", "c1d", "1d."])

    def test_the_threshold_is_just_reached(self):
        self.assertEqual(self.taken(1, 0, 2), ["a1b", "1b."])
        self.assertEqual(self.taken(1, 0, 3), [])
        self.assertEqual(self.taken(3, 5, 1), ["a1b", "1b.", "xa1", "1d."])
        self.assertEqual(self.taken(3, 5, 2), ["1b.", "xa1", "1d."])

    def test_hurting_is_just_outweighed(self):
        self.assertEqual(self.taken(1, 2, 0), ["a1b", "1b.", "xa1", "1d."])
        self.assertEqual(self.taken(1, 3, 0), ["1b.", "xa1", "1d."])
        self.assertEqual(self.taken(2, 1, 0), [".a1", "a1b", "1b.", "xa1", ".c1", "c1d", "1d."])

    def test_no_weight_for_helping(self):
        self.assertEqual(self.taken(0, 0, 0), [".a1", "a1b", "1b.", "xa1", ".c1", "c1d", "1d."])
        self.assertEqual(self.taken(0, 1, 0), ["1b.", "xa1", "1d."])
        self.assertEqual(self.taken(0, 0, 1), [])

    def test_only_what_helps_is_taken(self):
        self.assertEqual(held_after(text_of((1, 1), ["ab", "cd"]), (1, 2, 0, 0, 0)), [])
        self.assertEqual(held_after(text_of((1, 1), ["a-b"]), (2, 2, 0, 0, 0)), [])

    def test_all_are_counted_by_the_patterns_before(self):
        # When b1 is taken already, 1c would help no more; it is taken all the same.
        self.assertEqual(held_after(text_of((1, 1), ["ab-cd"]), (1, 1, 1, 1, 1)), ["b1", "1c"])

    def test_the_weights_at_their_greatest(self):
        text = text_of((1, 1), ["a-b"])
        self.assertEqual(ask_after(text, round_of(1, 2, 1000, 1000, 1000)), [[3, 3, 3, 0, 3]])
        self.assertEqual(ask_after(text, round_of(1, 2, 999, 1000, 1000)), [[0, 3, 0, 0, 0]])


class Merging(unittest.TestCase):
    def test_into_a_pattern_of_the_same_round(self):
        self.assertEqual(held_after(text_of((1, 1), ["a-b-c"]), (1, 3, 1, 1, 1)), [".a1b1", "a1b1c", "1b1c."])

    def test_into_a_pattern_of_the_list(self):
        text = text_of((1, 1), ["xa-by"], ["2ab4", "z1"])
        self.assertEqual(held_after(text, (1, 2, 1, 1, 1)), ["2a1b4", "z1", "xa1", "1by"])

    def test_at_each_gap_the_greater_digit(self):
        text = text_of((1, 1), ["xa-by"], ["2a2b2"])
        self.assertEqual(held_after(text, (1, 2, 1, 1, 1)), ["2a2b2", "xa1", "1by"])
        self.assertEqual(held_after(text, (3, 2, 1, 1, 1)), ["2a3b2", "xa3", "3by"])
        self.assertEqual(held_after(text, (1, 2, 1, 1, 1), (3, 2, 1, 1, 1)), ["2a3b2", "xa3", "3by"])

    def test_it_counts_as_taken_but_there_are_no_more(self):
        text = text_of((1, 1), ["xa-by"], ["2ab4", "xa2", "2by"])
        self.assertEqual(ask_after(text, round_of(3, 2, 1, 1, 1)), [[3, 3, 3, 0, 3]])

    def test_not_into_one_with_other_points(self):
        text = text_of((1, 1), ["xa-by"], [".ab1", "ab2.", ".ab1."])
        self.assertEqual(held_after(text, (1, 2, 1, 1, 1)), [".ab1", "ab2.", ".ab1.", "xa1", "a1b", "1by"])

    def test_with_points(self):
        text = text_of((1, 1), ["a-b"], [".ab9.", ".9ab"])
        self.assertEqual(held_after(text, (1, 4, 1, 1, 1)), [".a1b9.", ".9ab"])
        self.assertEqual(held_after(text, (1, 3, 1, 1, 1)), [".ab9.", ".9a1b", "a1b."])

    def test_the_list_itself_stays(self):
        text = text_of((1, 1), ["xa-by"], ["2ab4"])
        told = ask_after(text, round_of(1, 2, 1, 1, 1), patterns(), forget(), patterns())
        self.assertEqual([named(told[1]), named(told[3])], [["2a1b4", "xa1", "1by"], ["2ab4"]])


class OneAfterTheOther(unittest.TestCase):
    def test_the_next_round_sees_what_is_left(self):
        told = ask_after(WORKED, candidates(1, 2), round_of(1, 2, 1, 1, 1), candidates(1, 2), candidates(2, 2))
        self.assertEqual([told[0][0], told[2][0], told[3][0]], [7, 3, 3])

    def test_the_same_round_again_takes_no_more(self):
        told = ask_after(WORKED, round_of(1, 2, 1, 1, 1), round_of(1, 2, 1, 1, 1))
        self.assertEqual(told, [[4, 7, 6, 2, 4], [0, 3, 0, 0, 4]])

    def test_rounds_are_as_round_by_round(self):
        several = [(1, 2, 1, 1, 1), (2, 3, 1, 1, 1), (3, 4, 1, 1, 1), (4, 1, 0, 0, 0), (5, 8, 1, 0, 1)]
        looks = [patterns(), candidates(1, 2)]
        for size in range(len(several) + 1):
            flat = [number for numbers in several[:size] for number in numbers]
            single = ask_after(WORKED, *[round_of(*numbers) for numbers in several[:size]], score(), *looks)
            together = ask_after(WORKED, rounds(*flat), *looks)
            self.assertEqual(together, single[-3:])

    def test_ten_rounds(self):
        told = ask_after(WORKED, rounds(*([1, 2, 1, 1, 1, 2, 3, 1, 1, 1] * 5)), score())
        self.assertEqual(told[0], told[1])
        self.assertGreater(told[0][0], 0)

    def test_no_round(self):
        self.assertEqual(ask_after(WORKED, rounds()), [[0, 0, 0, 0, 3]])


class Line(unittest.TestCase):
    def test_twenty_calls(self):
        told = ask(load(WORKED), *[round_of(1, 2, 1, 1, 1)] * 19)
        self.assertEqual(told[1], [4, 7, 6, 2, 4])
        self.assertEqual(told[19], told[18])


if __name__ == "__main__":
    unittest.main()
