"""Texts and lists: what is right, each fault with its code and place, and the faults' order."""

import unittest

from helper import WORKED, ask, as_bytes, candidates, count, load, round_of, rounds, text_of

HEAD = "margins 1 1 ; "
LETTERS = "abcdefghijklmnopqrstuvwxyz"


def loaded(text):
    return ask(load(text))[0]


def pad(text, size):
    return text + " " * (size - len(text))


class TextCase(unittest.TestCase):
    def assert_right(self, text, words, patterns):
        self.assertEqual(loaded(text), [1, words, patterns], text)

    def assert_fault(self, text, code, place):
        self.assertEqual(loaded(text), [0, code, place], text)

    def assert_fault_at(self, text, code, token):
        """The fault's place is that of this token, which is there once."""
        self.assertEqual(text.count(token), 1)
        self.assert_fault(text, code, text.index(token))


class Tokens(TextCase):
    def test_blanks_of_each_kind_part_tokens(self):
        self.assert_right("margins 1\t1\n;word\tab\n;", 1, 0)

    def test_the_sign_needs_no_blanks(self):
        self.assert_right("margins 1 1;word a-b;word cd;pattern a1b;", 2, 1)

    def test_blanks_and_remarks_at_both_ends(self):
        self.assert_right(" \t\n# remark\n margins 1 1 ; \n\t # remark\n \n", 0, 0)

    def test_blanks_and_remarks_between_any_two_tokens(self):
        tokens = "margins 1 1 ; word a-b ; pattern a1b ;".split()
        self.assert_right("# x ; word\n \t".join(tokens), 1, 1)

    def test_a_remark_parts_two_chunks(self):
        self.assert_right("margins#\n1#1 2 3\n1#;\n;", 0, 0)

    def test_a_remark_ends_with_the_text(self):
        self.assert_right("margins 1 1 ; # word ;", 0, 0)
        self.assert_right("margins 1 1 ;#", 0, 0)
        self.assert_fault("margins 1 1 # ;", 3, 15)

    def test_a_remark_holds_any_byte(self):
        self.assert_right([35] + [b for b in range(256) if b != 10] + [10] + as_bytes("margins 1 1 ;"), 0, 0)

    def test_each_byte_where_no_token_begins(self):
        right = as_bytes(LETTERS + "0123456789-.; \t\n#")
        head = as_bytes("margins 1 1 ; ")
        for byte in range(256):
            answer = loaded(head + [byte])
            self.assertEqual(answer[1] == 2, byte not in right, byte)
            if byte not in right:
                self.assertEqual(answer, [0, 2, 14])

    def test_a_wrong_byte_inside_a_chunk(self):
        self.assert_fault_at("margins 1 1 ; word abCd ;", 2, "C")
        self.assert_fault_at("margins 1 1 ; word ab\r;", 2, "\r")

    def test_only_small_letters_are_letters(self):
        self.assert_fault(HEAD + "word a`b ;", 2, 20)
        self.assert_fault(HEAD + "word a{b ;", 2, 20)
        self.assert_fault(HEAD + "word a/b ;", 2, 20)
        self.assert_fault(HEAD + "word a:b ;", 2, 20)
        self.assert_fault(HEAD + "word a,b ;", 2, 20)

    def test_chunks_of_forty_and_of_forty_one_bytes(self):
        self.assert_fault(HEAD + "word " + "a" * 40 + " ;", 7, 19)
        self.assert_fault(HEAD + "word " + "a" * 41 + " ;", 2, 19)
        self.assert_fault(HEAD + "word ab ; " + "a.-1" * 10 + " ;", 3, 24)
        self.assert_fault(HEAD + "word ab ; " + "a.-1" * 10 + "z", 2, 24)

    def test_a_long_chunk_stands_before_a_wrong_byte_in_it(self):
        self.assert_fault("a" * 41 + "!", 2, 0)
        self.assert_fault("a" * 40 + "!", 2, 40)

    def test_the_first_wrong_place_is_told(self):
        self.assert_fault("! " + "a" * 41, 2, 0)
        self.assert_fault("a" * 41 + " !", 2, 0)
        self.assert_fault("margins ! ?", 2, 8)


class Size(TextCase):
    def test_4096_and_4097_bytes(self):
        self.assert_right(pad(WORKED, 4096), 3, 0)
        self.assert_fault(pad(WORKED, 4097), 1, 4096)

    def test_8192_bytes(self):
        self.assert_fault(pad(WORKED, 8192), 1, 4096)

    def test_size_stands_before_all_else(self):
        self.assert_fault(pad("!", 4097), 1, 4096)
        self.assert_fault(pad("!", 4096), 2, 0)


class Grammar(TextCase):
    def test_the_least_list(self):
        self.assert_right("margins 0 5 ;", 0, 0)

    def test_words_then_patterns(self):
        self.assert_right(text_of((2, 3), ["ab", "cd"], ["a1b", ".a1b", "1c"]), 2, 3)
        self.assert_right(text_of((2, 3), [], ["a1b"]), 0, 1)

    def test_an_empty_text(self):
        self.assert_fault("", 3, 0)
        self.assert_fault("  \n", 3, 3)
        self.assert_fault("# margins", 3, 9)

    def test_margins_stand_first(self):
        self.assert_fault("margin 1 1 ;", 3, 0)
        self.assert_fault("; margins 1 1 ;", 3, 0)
        self.assert_fault(" word ab ;", 3, 1)
        self.assert_fault("margins1 1 ;", 3, 0)

    def test_the_end_at_each_place(self):
        whole = "margins 1 1 ; word ab ; pattern a1b ;".split()
        for size in range(len(whole)):
            text = " ".join(whole[:size]) + " "
            if size in (4, 7):
                self.assert_right(text, 1 if size == 7 else 0, 0)
            else:
                self.assert_fault(text, 3, len(text))

    def test_the_sign_at_each_chunks_place(self):
        whole = "margins 1 1 ; word ab ; pattern a1b ;".split()
        for place in (0, 1, 2, 4, 5, 7, 8):
            before = "".join([token + " " for token in whole[:place]])
            self.assert_fault(before + "; ;", 3, len(before))

    def test_a_chunk_at_each_signs_place(self):
        whole = "margins 1 1 ; word ab ; pattern a1b ;".split()
        for place in (3, 6, 9):
            before = "".join([token + " " for token in whole[:place]])
            self.assert_fault(before + "x ;", 3, len(before))

    def test_other_chunks_where_word_or_pattern_stands(self):
        for chunk in ("words", "wor", "patterns", "margins", "1", "-"):
            self.assert_fault(HEAD + chunk + " ab ;", 3, 14)
            self.assert_fault(HEAD + "pattern a1b ; " + chunk + " ab ;", 3, 28)

    def test_a_word_behind_a_pattern(self):
        self.assert_fault(HEAD + "pattern a1b ; word ab ;", 3, 28)

    def test_a_word_behind_a_pattern_even_as_the_twenty_fifth(self):
        words = ["a" + letter for letter in LETTERS[:24]]
        text = text_of((1, 1), words, ["a1b"])
        self.assert_fault(text + "word zz ;", 3, len(text))

    def test_names_are_words_too(self):
        self.assert_right(HEAD + "word margins ; word word ; word pattern ;", 3, 0)

    def test_names_where_a_margin_or_a_pattern_stands(self):
        self.assert_fault("margins word 1 ;", 7, 8)
        self.assert_fault("margins 1 margins ;", 7, 10)
        self.assert_fault(HEAD + "pattern word ;", 7, 22)
        self.assert_fault(HEAD + "pattern pattern ;", 7, 22)


class Numbers(TextCase):
    def test_the_24th_and_the_25th_word(self):
        words = ["a" + letter for letter in LETTERS[:25]]
        self.assert_right(text_of((1, 1), words[:24]), 24, 0)
        before = text_of((1, 1), words[:24])
        self.assert_fault(before + "word zz ;", 4, len(before))

    def test_the_25th_word_whatever_stands_behind(self):
        before = text_of((1, 1), ["a" + letter for letter in LETTERS[:24]])
        for rest in ("word", "word ;", "word 1 ;", "word aa ;"):
            self.assert_fault(before + rest, 4, len(before))
        self.assert_fault(before + "word !", 2, len(before) + 5)

    def test_the_40th_and_the_41st_pattern(self):
        patterns = [f"{letter}1" for letter in LETTERS] + [f".{letter}1" for letter in LETTERS]
        self.assert_right(text_of((1, 1), [], patterns[:40]), 0, 40)
        before = text_of((1, 1), [], patterns[:40])
        for rest in ("pattern z1. ;", "pattern", "pattern ;", "pattern z ;", "pattern a1 ;"):
            self.assert_fault(before + rest, 4, len(before))

    def test_all_words_and_all_patterns(self):
        words = ["a" + letter for letter in LETTERS[:24]]
        patterns = [f"{a}1{b}" for a in "abcd" for b in "abcdefghij"]
        self.assert_right(text_of((1, 1), words, patterns), 24, 40)


class Margins(TextCase):
    def test_each_right_margin(self):
        for digit in "012345":
            self.assert_right(f"margins {digit} 0 ;", 0, 0)
            self.assert_right(f"margins 0 {digit} ;", 0, 0)

    def test_each_wrong_margin(self):
        for chunk in ("6", "7", "9", "00", "01", "10", "-1", "1.", "a", ".", "-"):
            self.assert_fault(f"margins {chunk} 0 ;", 7, 8)
            self.assert_fault(f"margins 0 {chunk} ;", 7, 10)


class Words(TextCase):
    def test_right_words(self):
        for word in ("ab", "a-b", "aa", "a-a-a", "abcdefghijklmnop", "-".join("abcdefghijklmnop")):
            self.assert_right(HEAD + f"word {word} ;", 1, 0)

    def test_words_of_one_and_of_seventeen_letters(self):
        for word in ("a", "abcdefghijklmnopq", "-".join("abcdefghijklmnopq"), "a" * 17):
            self.assert_fault(HEAD + f"word {word} ;", 7, 19)

    def test_wrong_words(self):
        for word in ("-", "-ab", "ab-", "a--b", "a-", "-a", "--", "a1b", "0ab", "ab9", "a.b", ".ab", "ab.", "a.-b"):
            self.assert_fault(HEAD + f"word {word} ;", 7, 19)

    def test_the_same_letters_again(self):
        self.assert_fault_at(HEAD + "word ta-ble ; word table ;", 5, "table")
        self.assert_fault_at(HEAD + "word abc ; word ab ; word a-bc ;", 5, "a-bc")
        self.assert_right(HEAD + "word ab ; word abc ; word bc ; word ba ;", 4, 0)

    def test_the_same_word_twice(self):
        self.assert_fault(HEAD + "word ab ; word ab ;", 5, 29)


class Patterns(TextCase):
    def test_right_patterns(self):
        for pattern in ("a1", "1a", "1a1", "9a", ".a1", "a1.", ".1a.", "1abcdef", "abcdef9", "abc5def",
                        "1a2b3c4d5e6f7", ".1a2b3c4d5e6f7.", ".abc1def.", ".1a", "a1a"):
            self.assert_right(HEAD + f"pattern {pattern} ;", 0, 1)

    def test_without_a_digit(self):
        for pattern in ("a", "abc", ".abc", "abc.", ".abc."):
            self.assert_fault(HEAD + f"pattern {pattern} ;", 7, 22)

    def test_with_the_digit_0(self):
        for pattern in ("a0b", "0ab", "ab0", "a1b0", "0a1b", "a0", "a10b", "a01b"):
            self.assert_fault(HEAD + f"pattern {pattern} ;", 7, 22)

    def test_with_two_digits_at_one_gap(self):
        for pattern in ("a11b", "12ab", "ab34", "a1b23"):
            self.assert_fault(HEAD + f"pattern {pattern} ;", 7, 22)

    def test_without_a_letter_and_with_seven(self):
        for pattern in ("1", ".1", "1.", ".1.", ".", "..", "abc1defg", ".1abcdefg", "a1b1c1d1e1f1g"):
            self.assert_fault(HEAD + f"pattern {pattern} ;", 7, 22)

    def test_with_points_and_hyphens_elsewhere(self):
        for pattern in ("..a1", "a1..", "a.1b", "1.a", "a.1", "a1.b", "a-1b", "-a1", "a1-", "1a.2"):
            self.assert_fault(HEAD + f"pattern {pattern} ;", 7, 22)

    def test_the_same_letters_and_points_again(self):
        self.assert_fault(HEAD + "pattern a1b ; pattern a1b ;", 5, 36)
        self.assert_fault(HEAD + "pattern a1b ; pattern 2ab3 ;", 5, 36)
        self.assert_fault(HEAD + "pattern .a1b. ; pattern .ab4. ;", 5, 38)

    def test_the_same_letters_with_other_points(self):
        self.assert_right(HEAD + "pattern a1b ; pattern .a1b ; pattern a1b. ; pattern .a1b. ;", 0, 4)

    def test_a_pattern_with_a_words_letters(self):
        self.assert_right(HEAD + "word ab ; pattern a1b ;", 1, 1)


class Order(TextCase):
    def test_tokens_stand_before_what_they_mean(self):
        self.assert_fault("word 9 9 !", 2, 9)
        self.assert_fault("margins 9 9 ; word ab ; word ab ; " + "z" * 41, 2, 34)

    def test_from_left_to_right(self):
        self.assert_fault("margins 9 ; ;", 7, 8)
        self.assert_fault("margins ; 9 ;", 3, 8)
        self.assert_fault("margins 1 9 word", 7, 10)
        self.assert_fault(HEAD + "word a word ab ;", 7, 19)
        self.assert_fault(HEAD + "word ab word a ;", 3, 22)
        self.assert_fault(HEAD + "word ab ; word ab word", 5, 29)
        self.assert_fault(HEAD + "word ab ; word a word", 7, 29)
        self.assert_fault(HEAD + "pattern ab ; word ab ;", 7, 22)
        self.assert_fault(HEAD + "pattern a1b ; pattern ab1 x", 5, 36)
        self.assert_fault(HEAD + "word ab ; word ab ; word a ;", 5, 29)

    def test_a_chunk_that_is_not_as_told_is_not_one_told_again(self):
        self.assert_fault(HEAD + "word ab ; word a-b- ;", 7, 29)
        self.assert_fault(HEAD + "pattern a1b ; pattern ab ;", 7, 36)

    def test_too_many_stand_before_what_is_in_them(self):
        before = text_of((1, 1), ["a" + letter for letter in LETTERS[:24]])
        self.assert_fault(before + "word ab ;", 4, len(before))
        self.assert_fault(before + "words ab ;", 3, len(before))


class WrongTextsChangeNothing(unittest.TestCase):
    def test_while_there_is_no_list(self):
        for wrong in ("", "!", "margins 1 1 ; word a ;", " " * 4097):
            told = ask(load(wrong), rounds(), candidates(1, 2))
            self.assertEqual(told[1:], [[-1], [-1]])

    def test_a_list_held_before_stays_with_its_patterns(self):
        made = round_of(1, 2, 1, 1, 1)
        looks = [rounds(), candidates(1, 2), candidates(2, 3), count("a1"), round_of(2, 3, 1, 1, 1), rounds()]
        for wrong in ("margins 1 1 ; word ab ; word ab ;", "!", "margins 1 1", " " * 4097,
                      "margins 1 1 ; word ab ; pattern a1b ; pattern ;"):
            without = ask(load(WORKED), made, *looks)
            beside = ask(load(WORKED), made, load(wrong), *looks)
            self.assertEqual(beside[2][0], 0)
            self.assertEqual(beside[:2] + beside[3:], without)

    def test_a_right_text_takes_the_others_place(self):
        text = text_of((1, 1), ["a-b"], ["a1b", "2c"])
        told = ask(load(WORKED), round_of(1, 2, 1, 1, 1), load(text), rounds(), candidates(1, 2), count("2ab"))
        self.assertEqual(told[2:], [[1, 1, 2], [2, 1, 1, 0, 0], [0], [0, 0]])

    def test_the_same_text_again_brings_the_lists_patterns(self):
        told = ask(load(WORKED), round_of(1, 2, 1, 1, 1), load(WORKED), rounds(), candidates(1, 2))
        self.assertEqual(told[2:4], [[1, 3, 0], [0, 0, 0, 0, 3]])
        self.assertEqual(told[4][0], 7)


if __name__ == "__main__":
    unittest.main()
