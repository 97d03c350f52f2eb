"""undo and forget: what is brought back, and what can be brought back behind each call."""

import unittest

from helper import (WORKED, Session, ask, ask_after, candidates, count, crowded, forget, load, named, part, patterns,
                    round_of, rounds, score, text_of, undo)

FIRST = (1, 2, 1, 1, 1)
SECOND = (2, 3, 1, 1, 1)
THIRD = (3, 4, 1, 1, 1)
TAKES_NOTHING = (1, 2, 0, 0, 1)
MADE = [round_of(*FIRST), round_of(*SECOND), round_of(*THIRD)]
NAMES = ["ta1", "a1b", "1bl", "ca1", ".a2b", ".ab3l"]

WITH_PATTERNS = text_of((1, 1), ["xa-by", "ca-d"], ["2ab4", "z1"])


def undone(text, *calls, times=1):
    """Give the patterns behind some calls and some undos, as texts."""
    told = ask_after(text, *calls, *[undo()] * times, patterns())
    for answer in told[len(calls):-1]:
        assert answer[0] >= 0, "an undo is refused"
    assert told[-2] == told[-1][:1], "undo tells another number of patterns"
    return named(told[-1])


class Nothing(unittest.TestCase):
    def test_behind_load(self):
        self.assertEqual(ask_after(WORKED, undo(), undo()), [[-8], [-8]])
        self.assertEqual(ask_after("margins 1 1 ;", undo()), [[-8]])
        self.assertEqual(ask_after(WITH_PATTERNS, undo()), [[-8]])

    def test_the_object_stays_as_it_was(self):
        looks = [patterns(), score(), candidates(1, 2), count("a1b"), part("xaby"), round_of(*FIRST), patterns(),
                 undo()]
        self.assertEqual(ask_after(WITH_PATTERNS, undo(), *looks)[1:], ask_after(WITH_PATTERNS, *looks))

    def test_what_makes_no_round_puts_nothing_there(self):
        for call in (rounds(), score(), patterns(), candidates(1, 2), count("a1b"), part("able"), forget(), undo(),
                     load("!"), round_of(0, 2, 1, 1, 1), rounds(1), candidates(0, 1), count("a"), part("a")):
            self.assertEqual(ask_after(WORKED, call, undo())[1], [-8], call)


class BehindRounds(unittest.TestCase):
    def test_one(self):
        self.assertEqual(ask_after(WORKED, MADE[0], undo(), undo()), [[4, 7, 6, 2, 4], [0], [-8]])
        self.assertEqual(undone(WITH_PATTERNS, round_of(*FIRST)), ["2ab4", "z1"])

    def test_several(self):
        self.assertEqual(undone(WORKED, *MADE), NAMES[:5])
        self.assertEqual(undone(WORKED, *MADE, times=2), NAMES[:4])
        self.assertEqual(undone(WORKED, *MADE, times=3), [])
        self.assertEqual(ask_after(WORKED, *MADE, *[undo()] * 4)[3:], [[5], [4], [0], [-8]])

    def test_one_that_has_put_into_a_pattern(self):
        told = ask_after(WITH_PATTERNS, round_of(*FIRST), patterns(), undo(), patterns(), score())
        self.assertEqual(named(told[1])[:2], ["2a1b4", "z1"])
        self.assertEqual([named(told[3]), told[4]], [["2ab4", "z1"], [2, 0, 0, 0, 2]])

    def test_one_that_took_nothing(self):
        told = ask_after(WORKED, MADE[0], round_of(*TAKES_NOTHING), undo(), undo(), undo())
        self.assertEqual(told[1:], [[0, 3, 0, 0, 4], [4], [0], [-8]])
        self.assertEqual(ask_after(WORKED, rounds(*TAKES_NOTHING), undo(), undo())[1:], [[0], [-8]])

    def test_rounds_as_one(self):
        whole = rounds(*FIRST, *SECOND, *THIRD)
        self.assertEqual(ask_after(WORKED, whole, undo(), undo())[1:], [[0], [-8]])
        self.assertEqual(undone(WORKED, MADE[0], rounds(*SECOND, *THIRD)), NAMES[:4])
        self.assertEqual(undone(WORKED, rounds(*FIRST, *SECOND), MADE[2]), NAMES[:5])
        self.assertEqual(undone(WORKED, rounds(*FIRST, *SECOND), MADE[2], times=2), [])

    def test_ten_rounds_as_one(self):
        self.assertEqual(ask_after(WORKED, rounds(*FIRST * 10), undo(), undo())[1:], [[0], [-8]])

    def test_rounds_as_one_count_as_one_of_the_last_twenty(self):
        ten = rounds(*(FIRST + SECOND) * 5)
        told = ask_after(WORKED, MADE[0], ten, ten, ten, *[undo()] * 5)
        self.assertEqual(told[4:8], [[told[2][0]], [told[1][0]], [4], [0]])
        self.assertEqual(told[8], [-8])

    def test_rounds_with_an_empty_list(self):
        self.assertEqual(ask_after(WORKED, MADE[0], rounds(), undo(), undo())[1:], [[4, 2, 2, 1, 1], [0], [-8]])
        self.assertEqual(ask_after(WORKED, rounds(), MADE[0], rounds(), rounds(), undo(), undo())[4:], [[0], [-8]])

    def test_as_many_as_a_line_has(self):
        told = ask_after(WORKED, *[round_of(*FIRST)] * 9, *[undo()] * 10)
        self.assertEqual(told[9:], [[4]] * 8 + [[0], [-8]])


class BehindRefusals(unittest.TestCase):
    def assert_nothing_put(self, text, made, refused, code):
        told = ask_after(text, refused, undo(), made, refused, undo(), undo())
        self.assertEqual([told[0], told[1], told[3], told[5]], [[code], [-8], [code], [-8]])
        self.assertEqual(told[4], ask_after(text, made, undo())[1])

    def test_a_round_with_wrong_numbers(self):
        for refused in (round_of(0, 2, 1, 1, 1), round_of(1, 9, 1, 1, 1), round_of(1, 2, -1, 1, 1),
                        round_of(1, 2, 1, 1001, 1), round_of(1, 2, 1, 1, 1001)):
            self.assert_nothing_put(WORKED, MADE[0], refused, -4)

    def test_rounds_with_wrong_numbers(self):
        for refused in (rounds(1), rounds(*FIRST, 2), rounds(*FIRST, *SECOND, 0, 1, 1, 1, 1), rounds(*FIRST * 11)):
            self.assert_nothing_put(WORKED, MADE[0], refused, -4)

    def test_too_many_patterns(self):
        # The length of eight is for the word of six letters alone, which leaves all the others as they are.
        text = crowded(200, ["zzz-zzz"])
        made = round_of(1, 8, 1, 0, 0)
        self.assertEqual(ask_after(text, made)[0][0], 1)
        for refused in (round_of(1, 2, 1, 0, 0), rounds(1, 2, 1, 0, 0), rounds(1, 2, 1, 0, 2, 1, 2, 1, 0, 0),
                        rounds(1, 2, 1, 0, 0, 2, 2, 1, 0, 0)):
            self.assert_nothing_put(text, made, refused, -7)

    def test_what_other_calls_refuse(self):
        for refused in (candidates(0, 1), count("a"), part("a")):
            self.assert_nothing_put(WORKED, MADE[0], refused, -4)


class BehindLoad(unittest.TestCase):
    def test_a_right_text(self):
        for text in (WORKED, WITH_PATTERNS, "margins 1 1 ;"):
            told = ask(load(WORKED), *MADE, load(text), undo(), patterns())
            self.assertEqual(told[5], [-8])
            self.assertEqual(told[6], ask_after(text, patterns())[0])

    def test_a_wrong_text(self):
        for wrong in ("", "!", "margins 1 1 ; word a ;", " " * 4097):
            told = ask(load(WORKED), *MADE, load(wrong), undo(), patterns(), undo(), undo(), undo())
            self.assertEqual(told[5], [5])
            self.assertEqual(named(told[6]), NAMES[:5])
            self.assertEqual(told[7:], [[4], [0], [-8]])


class BehindUndo(unittest.TestCase):
    def test_a_round_made_anew(self):
        told = ask_after(WORKED, MADE[0], undo(), MADE[0], MADE[1], undo(), MADE[1], undo(), undo(), undo())
        self.assertEqual(told[2:], [[4, 7, 6, 2, 4], [1, 3, 1, 0, 5], [4], [1, 3, 1, 0, 5], [4], [0], [-8]])

    def test_another_round(self):
        other = round_of(1, 3, 1, 1, 1)
        told = ask_after(WORKED, MADE[0], MADE[1], undo(), other, patterns(), undo(), patterns(), undo())
        alone = ask_after(WORKED, MADE[0], other, patterns())
        self.assertEqual(told[3:5], alone[1:])
        self.assertEqual([told[5], named(told[6]), told[7]], [[4], NAMES[:4], [0]])

    def test_undo_that_is_refused(self):
        told = ask_after(WORKED, undo(), MADE[0], undo(), undo(), MADE[0], MADE[1], undo())
        self.assertEqual(told, [[-8], [4, 7, 6, 2, 4], [0], [-8], [4, 7, 6, 2, 4], [1, 3, 1, 0, 5], [4]])

    def test_all_looks_are_as_before_the_round(self):
        looks = [patterns(), score(), candidates(1, 2), candidates(2, 3), count("b1l"), part("able")]
        told = ask_after(WORKED, MADE[0], *looks, MADE[1], undo(), *looks)
        self.assertEqual(told[1:7], told[9:])


class TheLastTwenty(unittest.TestCase):
    """A line has too few calls for these, so that they are made one by one."""

    def session(self, number):
        """Give a session behind a round that takes four patterns and others that take none, so many in all."""
        session = Session(WORKED)
        for step in range(number):
            self.assertEqual(session.ask(MADE[0])[4], 4)
        return session

    def undos(self, session):
        told = []
        while not told or told[-1][0] >= 0:
            told.append(session.ask(undo()))
        return told

    def test_behind_nineteen_twenty_and_more(self):
        self.assertEqual(self.undos(self.session(19)), [[4]] * 18 + [[0], [-8]])
        self.assertEqual(self.undos(self.session(20)), [[4]] * 19 + [[0], [-8]])
        self.assertEqual(self.undos(self.session(21)), [[4]] * 20 + [[-8]])
        self.assertEqual(self.undos(self.session(45)), [[4]] * 20 + [[-8]])

    def test_rounds_as_one_are_one_of_them(self):
        session = self.session(20)
        session.ask(rounds(*SECOND, *THIRD))
        self.assertEqual(self.undos(session), [[4]] * 20 + [[-8]])
        session = self.session(19)
        session.ask(rounds(*SECOND, *THIRD))
        self.assertEqual(self.undos(session), [[4]] * 19 + [[0], [-8]])

    def test_what_puts_nothing_there_takes_none_away(self):
        session = self.session(20)
        for call in (rounds(), round_of(0, 0, 0, 0, 0), rounds(1), score(), patterns(), part("able"), load("!")):
            session.ask(call)
        self.assertEqual(self.undos(session), [[4]] * 19 + [[0], [-8]])

    def test_what_is_undone_makes_room(self):
        session = self.session(20)
        session.ask(undo())
        session.ask(MADE[1])
        self.assertEqual(self.undos(session), [[4]] * 19 + [[0], [-8]])


class Forget(unittest.TestCase):
    def test_without_rounds_made(self):
        self.assertEqual(ask_after(WORKED, forget(), patterns(), undo()), [[0], [0], [-8]])
        told = ask_after(WITH_PATTERNS, forget(), patterns(), undo())
        self.assertEqual([told[0], named(told[1]), told[2]], [[2], ["2ab4", "z1"], [-8]])

    def test_with_rounds_made(self):
        self.assertEqual(ask_after(WORKED, *MADE, forget(), patterns(), score())[3:], [[0], [0], [0, 0, 0, 0, 3]])
        told = ask_after(WITH_PATTERNS, round_of(*FIRST), rounds(*FIRST, *SECOND), forget(), patterns(), score())
        self.assertEqual([told[2], named(told[3]), told[4]], [[2], ["2ab4", "z1"], [2, 0, 0, 0, 2]])

    def test_nothing_can_be_undone_then(self):
        for calls in ([], MADE[:1], MADE, [rounds(*FIRST, *SECOND)], MADE + [undo()], MADE[:1] + [undo()]):
            told = ask_after(WORKED, *calls, forget(), undo(), patterns())
            self.assertEqual(told[-3:], [[0], [-8], [0]])

    def test_rounds_behind_it(self):
        told = ask_after(WORKED, *MADE, forget(), MADE[0], MADE[1], undo(), undo(), undo())
        self.assertEqual(told[4:], [[4, 7, 6, 2, 4], [1, 3, 1, 0, 5], [4], [0], [-8]])

    def test_twice(self):
        self.assertEqual(ask_after(WITH_PATTERNS, round_of(*FIRST), forget(), forget(), undo())[1:], [[2], [2], [-8]])

    def test_the_patterns_of_the_list_held_now(self):
        told = ask(load(WITH_PATTERNS), round_of(*FIRST), load(WORKED), MADE[0], forget(), load("!"), forget(),
                   load(WITH_PATTERNS), round_of(*FIRST), load("!"), forget(), patterns())
        self.assertEqual([told[4], told[6], told[10], named(told[11])], [[0], [0], [2], ["2ab4", "z1"]])

    def test_all_looks_are_as_behind_load(self):
        looks = [patterns(), score(), candidates(1, 2), candidates(2, 3), count("b1y"), part("xaby"),
                 round_of(*FIRST), patterns()]
        told = ask_after(WITH_PATTERNS, round_of(*FIRST), round_of(*SECOND), forget(), *looks)
        self.assertEqual(told[3:], ask_after(WITH_PATTERNS, *looks))


if __name__ == "__main__":
    unittest.main()
