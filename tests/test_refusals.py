"""Refusals: -1, -4, -7 and -8, each of which leaves the object as it was."""

import unittest

from helper import (BIG, WORKED, Session, ask, ask_after, candidates, count, crowded, forget, full_words, load, part,
                    patterns, rounds, round_of, score, text_of, undo)

RIGHT_ROUND = (1, 2, 1, 1, 1)
OUTSIDE = {0: (0, 10, -1, BIG, -BIG), 1: (0, 9, -1, BIG, -BIG)}
OUTSIDE.update({place: (-1, 1001, BIG, -BIG) for place in (2, 3, 4)})
EDGES = {0: (1, 9), 1: (1, 8), 2: (0, 1000), 3: (0, 1000), 4: (0, 1000)}


def changed(numbers, place, number):
    return tuple(numbers[:place]) + (number,) + tuple(numbers[place + 1:])


class NoList(unittest.TestCase):
    every = [round_of(*RIGHT_ROUND), rounds(*RIGHT_ROUND), rounds(), candidates(1, 2), count("a1b"), patterns(),
             score(), part("able"), undo(), forget()]

    def test_every_call_but_load(self):
        self.assertEqual(ask(*self.every), [[-1]] * 10)

    def test_each_call_by_itself(self):
        for call in self.every:
            self.assertEqual(ask(call), [[-1]])
            self.assertEqual(ask(call, load(WORKED), score()), [[-1], [1, 3, 0], [0, 0, 0, 0, 3]])

    def test_before_all_else(self):
        told = ask(round_of(0, 0, -1, -1, -1), rounds(1, 2, 3), rounds(*[BIG] * 2000), candidates(-BIG, BIG),
                   count("!"), count(""), part("!"), part(""), part("a" * 17))
        self.assertEqual(told, [[-1]] * 9)

    def test_behind_a_wrong_text(self):
        for wrong in ("!", "", "margins 1 1 ; word a ;", " " * 4097):
            told = ask(load(wrong), *self.every)
            self.assertEqual(told[0][0], 0)
            self.assertEqual(told[1:], [[-1]] * 10)

    def test_they_hold_no_list_themselves(self):
        self.assertEqual(ask(forget(), undo(), score(), forget(), patterns()), [[-1]] * 5)

    def test_a_list_without_words_is_a_list(self):
        told = ask(load("margins 1 1 ;"), candidates(1, 2), count("a1b"), round_of(*RIGHT_ROUND), rounds(), patterns(),
                   score(), part("able"), undo(), forget())
        self.assertEqual(told, [[1, 0, 0], [0], [0, 0], [0] * 5, [0] * 5, [0], [0] * 5, [0], [0], [0]])

    def test_a_new_line_has_no_list(self):
        ask(load(WORKED))
        self.assertEqual(ask(*self.every), [[-1]] * 10)


class WrongNumbers(unittest.TestCase):
    def refused(self, call):
        self.assertEqual(ask_after(WORKED, call), [[-4]], call[:12])

    def test_a_round(self):
        for place, numbers in OUTSIDE.items():
            for number in numbers:
                self.refused(round_of(*changed(RIGHT_ROUND, place, number)))

    def test_a_round_at_its_edges(self):
        for place, numbers in EDGES.items():
            for number in numbers:
                told = ask_after(WORKED, round_of(*changed(RIGHT_ROUND, place, number)))
                self.assertEqual(len(told[0]), 5)

    def test_rounds(self):
        for place, numbers in OUTSIDE.items():
            for number in numbers:
                wrong = changed(RIGHT_ROUND, place, number)
                self.refused(rounds(*wrong))
                self.refused(rounds(*(RIGHT_ROUND * 9 + wrong)))
                self.refused(rounds(*(wrong + RIGHT_ROUND)))

    def test_rounds_at_their_edges(self):
        for place, numbers in EDGES.items():
            for number in numbers:
                told = ask_after(WORKED, rounds(*changed(RIGHT_ROUND, place, number)))
                self.assertEqual(len(told[0]), 5)

    def test_rounds_of_other_lengths(self):
        for size in (1, 2, 3, 4, 6, 9, 11, 49, 51, 54):
            self.refused(rounds(*(RIGHT_ROUND * 11)[:size]))

    def test_ten_and_eleven_rounds(self):
        self.assertEqual(len(ask_after(WORKED, rounds(*RIGHT_ROUND * 10))[0]), 5)
        self.refused(rounds(*RIGHT_ROUND * 11))
        self.refused(rounds(*RIGHT_ROUND * 400))

    def test_candidates(self):
        for level in OUTSIDE[0]:
            self.refused(candidates(level, 2))
            self.refused(candidates(level, BIG))
        for length in OUTSIDE[1]:
            self.refused(candidates(1, length))

    def test_candidates_at_their_edges(self):
        for level in range(1, 10):
            for length in range(1, 9):
                self.assertGreaterEqual(ask_after(WORKED, candidates(level, length))[0][0], 0)

    def test_count_of_no_pattern(self):
        for chunk in ("", "ab", "a0b", "a12b", "1", ".1.", "..a1", "a1..", "a-1b", "a1bcdefg", " a1b", "a1b ", "a1b;",
                      "A1b", "a1b\n", "a1#", "a" * 40 + "1", "a1" * 4096, [0], [255, 97, 49], [97, 49, 200]):
            self.refused(count(chunk))

    def test_count_of_more_than_one_digit(self):
        for chunk in ("a1b1", "1a2b", ".1ab2.", "a1b2c3", "1a1"):
            self.refused(count(chunk))

    def test_count_of_a_pattern(self):
        for chunk in ("a1", "1a", ".1a", "a9.", ".1a.", "abcdef1", ".abc8def."):
            self.assertEqual(len(ask_after(WORKED, count(chunk))[0]), 2)


class TooMany(unittest.TestCase):
    none = (1, 2, 0, 0, 1)
    small = (1, 2, 1, 0, 0)

    def test_just_200(self):
        told = ask_after(crowded(200), round_of(*self.small), rounds())
        self.assertEqual(told[0][4], 200)
        self.assertEqual(told[1][0], 200)
        self.assertEqual(ask_after(crowded(200), rounds(*self.small))[0][0], 200)

    def test_201(self):
        self.assertEqual(ask_after(crowded(201), round_of(*self.small), rounds(*self.small)), [[-7], [-7]])

    def test_many_more(self):
        words = full_words()[0]
        text = text_of((1, 1), words + [word[::-1] for word in words])
        self.assertEqual(ask_after(text, round_of(1, 3, 1, 0, 0), rounds(1, 3, 1, 0, 0)), [[-7], [-7]])

    def test_with_200_a_round_that_adds_none(self):
        told = ask_after(crowded(200), round_of(*self.small), round_of(*self.small), rounds(*self.small * 10))
        self.assertEqual([told[1], told[2][0]], [[0, 0, 0, 0, 200], 200])

    def test_after_a_later_round(self):
        for numbers in (self.none + self.small, self.small + self.none, self.none + self.small + self.none):
            self.assertEqual(ask_after(crowded(200), rounds(*numbers))[0][0], 200)
            self.assertEqual(ask_after(crowded(201), rounds(*numbers)), [[-7]])

    def test_wrong_numbers_stand_before_it(self):
        self.assertEqual(ask_after(crowded(201), round_of(1, 2, 1, 0, -1)), [[-4]])
        self.assertEqual(ask_after(crowded(201), rounds(*self.small + (0, 2, 1, 0, 0))), [[-4]])
        self.assertEqual(ask_after(crowded(201), rounds(*self.small * 11)), [[-4]])

    def test_there_is_room_before_and_behind_a_refusal(self):
        told = ask_after(crowded(201), round_of(*self.small), round_of(1, 2, 1, 0, 2), rounds(*self.small),
                         rounds())
        self.assertEqual([told[0], told[2]], [[-7], [-7]])
        self.assertEqual(told[1][4], told[3][0])


class Unchanged(unittest.TestCase):
    """A refusal leaves the object as it was."""

    refusals = [round_of(0, 2, 1, 1, 1), round_of(1, 2, 1, 1, BIG), rounds(1), rounds(1, 2, 1, 1, 1, 1, 9, 1, 1, 1),
                rounds(*RIGHT_ROUND * 11), candidates(10, 1), candidates(1, -BIG), count(""), count("a"), count("1a2"),
                part(""), part("a"), part("ab-c"), part("a" * 17)]

    def assert_left(self, session, call, code):
        before = session.state()
        self.assertEqual(session.ask(call), [code])
        self.assertEqual(session.state(), before)

    def test_by_wrong_numbers(self):
        session = Session(WORKED)
        for step in range(2):
            for call in self.refusals:
                self.assert_left(session, call, -4)
            session.ask(round_of(*RIGHT_ROUND))

    def test_by_too_many_patterns(self):
        session = Session(crowded(201))
        session.ask(round_of(1, 2, 1, 0, 2))
        self.assert_left(session, round_of(1, 2, 1, 0, 0), -7)
        self.assert_left(session, rounds(1, 2, 1, 0, 0), -7)
        self.assert_left(session, rounds(1, 2, 1, 0, 1000, 1, 2, 1, 0, 0), -7)

    def test_by_nothing_to_undo(self):
        session = Session(text_of((1, 1), ["ta-ble"], ["a2b"]))
        self.assert_left(session, undo(), -8)
        session.ask(round_of(*RIGHT_ROUND))
        session.ask(undo())
        self.assert_left(session, undo(), -8)

    def test_what_comes_behind_is_as_without(self):
        looks = [candidates(1, 2), count("a1b"), round_of(1, 2, 1, 1, 1), candidates(2, 3), rounds()]
        without = ask_after(WORKED, *looks)
        beside = ask_after(WORKED, round_of(0, 0, 0, 0, 0), rounds(1), *looks[:3], candidates(0, 1), count("b"),
                           *looks[3:])
        self.assertEqual(beside[2:5] + beside[7:], without)


if __name__ == "__main__":
    unittest.main()
