"""patterns: how many there are now, each one's bytes, in the order in which they are held."""

import unittest

from helper import (WORKED, ask_after, candidates, count, crowded, forget, load, named, part, patterns, round_of,
                    rounds, score, text_of, undo)

# Each with and without points; digits before the first letter, behind the last one, several, at all gaps.
EVERY_FORM = ["a1", "1b", "2c3", "a1a", "1ab", "bc1", "1a2b3c4d5e6f7", "ghijkl9", "9bcdefg", "x1y2z",
              ".a1", ".1b", ".2c3", ".1bc", ".cd1", ".1a2b3c4d5e6f7", ".ghijkl8", ".7bcdefg", ".x1yz",
              "a1.", "1b.", "2c3.", "1bd.", "de1.", "1a2b3c4d5e6f7.", "ghijkl6.", "5bcdefg.", "xy9z.",
              ".a1.", ".1b.", ".2c3.", ".1be.", ".ef1.", ".1a2b3c4d5e6f7.", ".ghijkl4.", ".3bcdefg.", ".xy1z2."]


def told(text, *calls):
    """Give the patterns behind some calls, as texts."""
    return named(ask_after(text, *calls, patterns())[-1])


class Told(unittest.TestCase):
    def test_none(self):
        self.assertEqual(ask_after(WORKED, patterns()), [[0]])
        self.assertEqual(ask_after("margins 0 0 ;", patterns()), [[0]])

    def test_number_by_number(self):
        text = text_of((1, 1), ["ab"], [".1a2.", "b3c"])
        self.assertEqual(ask_after(text, patterns()), [[2, 5, 46, 49, 97, 50, 46, 3, 98, 51, 99]])

    def test_each_pattern_by_itself(self):
        for pattern in EVERY_FORM:
            self.assertEqual(told(text_of((1, 1), [], [pattern])), [pattern])

    def test_each_digit_at_each_gap(self):
        for digit in "123456789":
            for pattern in ("{}ab", "a{}b", "ab{}", ".{}ab", ".a{}b", ".ab{}", "{}ab.", "a{}b.", "ab{}.", ".ab{}."):
                self.assertEqual(told(text_of((1, 1), [], [pattern.format(digit)])), [pattern.format(digit)])

    def test_the_lists_patterns_as_told_in_their_order(self):
        self.assertEqual(told(text_of((1, 1), ["x-y"], EVERY_FORM)), EVERY_FORM)
        self.assertEqual(told(text_of((1, 1), [], EVERY_FORM[::-1])), EVERY_FORM[::-1])

    def test_all_that_a_list_may_tell(self):
        forty = [f"{a}1{b}" for a in "dcba" for b in "jihgfedcba"]
        self.assertEqual(told(text_of((1, 1), [], forty)), forty)

    def test_whatever_stands_between_tokens(self):
        self.assertEqual(told("#1a2\nmargins 1 1;\tpattern # a1b\n .1a.;#"), [".1a."])

    def test_a_list_that_is_refused_tells_none(self):
        self.assertEqual(told(text_of((1, 1), [], ["a1b"]), load(text_of((1, 1), [], ["c1d", "c2d"]))), ["a1b"])

    def test_another_list_tells_its_own(self):
        self.assertEqual(told(text_of((1, 1), ["a-b"], ["a2b"]), round_of(1, 2, 1, 1, 1),
                              load(text_of((1, 1), [], ["c1d"]))), ["c1d"])


class BehindRounds(unittest.TestCase):
    def test_put_behind_them(self):
        text = text_of((1, 1), ["x-y"], EVERY_FORM)
        self.assertEqual(told(text, round_of(1, 2, 1, 1, 1)), EVERY_FORM + [".x1", "x1y", "1y."])

    def test_put_behind_them_round_by_round(self):
        self.assertEqual(told(WORKED, round_of(1, 2, 1, 1, 1)), ["ta1", "a1b", "1bl", "ca1"])
        self.assertEqual(told(WORKED, round_of(1, 2, 1, 1, 1), round_of(2, 3, 1, 1, 1)),
                         ["ta1", "a1b", "1bl", "ca1", ".a2b"])

    def test_put_into_one_there_was(self):
        text = text_of((1, 1), ["xa-by"], ["2ab4", "z1"])
        self.assertEqual(told(text, round_of(1, 2, 1, 1, 1)), ["2a1b4", "z1", "xa1", "1by"])
        text = text_of((1, 1), ["a-b"], ["1ab.", ".ab1", ".2ab2."])
        self.assertEqual(told(text, round_of(3, 3, 1, 1, 1)), ["1a3b.", ".a3b1", ".2ab2."])
        self.assertEqual(told(text, round_of(3, 4, 1, 1, 1)), ["1ab.", ".ab1", ".2a3b2."])

    def test_put_into_one_of_the_same_round(self):
        self.assertEqual(told(text_of((1, 1), ["a-b-c"]), round_of(1, 3, 1, 1, 1)), [".a1b1", "a1b1c", "1b1c."])

    def test_a_lesser_digit_is_not_told(self):
        text = text_of((1, 1), ["xa-by"], ["a4b"])
        self.assertEqual(told(text, round_of(1, 2, 1, 1, 1)), ["a4b", "xa1", "1by"])
        self.assertEqual(told(text, round_of(5, 2, 1, 1, 1)), ["a5b", "xa5", "5by"])

    def test_behind_rounds_as_one(self):
        self.assertEqual(told(WORKED, rounds(1, 2, 1, 1, 1, 2, 3, 1, 1, 1, 3, 4, 1, 1, 1)),
                         ["ta1", "a1b", "1bl", "ca1", ".a2b", ".ab3l"])

    def test_behind_what_takes_none_or_is_refused(self):
        text = text_of((1, 1), ["ta-ble"], ["1a1"])
        for call in (round_of(1, 2, 0, 0, 1), rounds(), rounds(1, 2, 0, 0, 1), round_of(0, 2, 1, 1, 1), rounds(1),
                     undo(), forget(), score(), candidates(1, 2), count("a1b"), part("table"), patterns()):
            self.assertEqual(told(text, call), ["1a1"])

    def test_behind_undo_and_forget(self):
        text = text_of((1, 1), ["xa-by"], ["2ab4"])
        made = round_of(1, 2, 1, 1, 1)
        self.assertEqual(told(text, made, undo()), ["2ab4"])
        self.assertEqual(told(text, made, made, undo()), ["2a1b4", "xa1", "1by"])
        self.assertEqual(told(text, made, made, forget()), ["2ab4"])

    def test_two_hundred(self):
        before = told(crowded(200))
        after = told(crowded(200), round_of(1, 2, 1, 0, 0))
        self.assertEqual(after[:len(before)], before)
        self.assertEqual(len(after), 200)
        self.assertEqual(told(crowded(201), round_of(1, 2, 1, 0, 0)), told(crowded(201)))


if __name__ == "__main__":
    unittest.main()
