"""The program held against another one, written word by word after the document, on chance lines."""

import random
import re
import unittest

from helper import (BIG, as_bytes, candidates, count, forget, load, part, patterns, rounds, round_of, score, split,
                    undo)
from partrounds.learning import answers

CHUNK = re.compile("[a-z0-9.-]+")
WORD = re.compile("[a-z](-?[a-z])*")
PATTERN = re.compile("[.]?[1-9]?([a-z][1-9]?)+[.]?")


class Wrong(Exception):
    pass


def tokens(text):
    found = []
    at = 0
    while at < len(text):
        chunk = CHUNK.match(text, at)
        if text[at] in " \t\n":
            at += 1
        elif text[at] == "#":
            at = text.index("\n", at) if "\n" in text[at:] else len(text)
        elif text[at] == ";":
            found.append((";", at))
            at += 1
        elif chunk and len(chunk.group()) <= 40:
            found.append((chunk.group(), at))
            at = chunk.end()
        else:
            raise Wrong(2, at)
    return found + [("", len(text))]


def is_word(chunk):
    return WORD.fullmatch(chunk) and 2 <= len(re.findall("[a-z]", chunk)) <= 16


def is_pattern(chunk):
    letters = len(re.findall("[a-z]", chunk))
    return PATTERN.fullmatch(chunk) and 1 <= letters <= 6 and re.search("[1-9]", chunk)


def known_by(chunk):
    return re.sub("[-1-9]", "", chunk)


def read(text):
    if len(text) > 4096:
        raise Wrong(1, 4096)
    left = tokens(text)[::-1]

    def written(chunk):
        token, at = left.pop()
        if token != chunk:
            raise Wrong(3, at)

    def chunk_that(fits, earlier):
        token, at = left.pop()
        if token in ("", ";"):
            raise Wrong(3, at)
        if not fits(token):
            raise Wrong(7, at)
        if known_by(token) in [known_by(one) for one in earlier]:
            raise Wrong(5, at)
        return token

    written("margins")
    margins = [int(chunk_that(lambda chunk: re.fullmatch("[0-5]", chunk), [])) for side in range(2)]
    written(";")
    told = {"word": [], "pattern": []}
    while left[-1][0] != "":
        name, at = left.pop()
        if name not in told or (name == "word" and told["pattern"]):
            raise Wrong(3, at)
        if len(told[name]) == {"word": 24, "pattern": 40}[name]:
            raise Wrong(4, at)
        told[name].append(chunk_that({"word": is_word, "pattern": is_pattern}[name], told[name]))
        written(";")
    return margins, told["word"], told["pattern"]


def letters_of(chunk):
    return re.sub("[^a-z]", "", chunk)


def digits_of(pattern):
    return [int(digit or "0") for digit in re.findall("[a-z]([1-9]?)", "a" + pattern.strip("."))]


def stands(pattern, letters):
    """Give the digit of a pattern at each gap of some letters, place by place where it fits."""
    piece = letters_of(pattern)
    for place in range(len(letters) - len(piece) + 1):
        if letters[place:place + len(piece)] != piece:
            continue
        if pattern.startswith(".") and place > 0:
            continue
        if pattern.endswith(".") and place + len(piece) < len(letters):
            continue
        for step, digit in enumerate(digits_of(pattern)):
            yield place + step, digit


class Object:
    def __init__(self):
        self.margins = None
        self.words = []
        self.first = []
        self.patterns = []
        self.earlier = []

    def level(self, patterns, letters, gap):
        return max([0] + [digit for one in patterns for at, digit in stands(one, letters) if at == gap])

    def gaps(self, patterns):
        """Give (letters, gap, may be parted, is parted) for each gap within the margins."""
        found = []
        for word in self.words:
            letters = letters_of(word)
            may = [len(letters_of(word[:at])) for at, sign in enumerate(word) if sign == "-"]
            for gap in range(1, len(letters)):
                if gap >= self.margins[0] and len(letters) - gap >= self.margins[1]:
                    found.append((letters, gap, gap in may, self.level(patterns, letters, gap) % 2 == 1))
        return found

    def would(self, level, gap):
        letters, at, may, parted = gap
        if level % 2 == 1:
            return "help" if may and not parted else "hurt" if not may and not parted else ""
        return "help" if parted and not may else "hurt" if parted and may else ""

    def counts(self, patterns, candidate):
        level = max(digits_of(candidate))
        told = [self.would(level, gap) for gap in self.gaps(patterns)
                if (gap[1], level) in list(stands(candidate, gap[0]))]
        return [told.count("help"), told.count("hurt")]

    def candidates(self, patterns, level, length):
        found = []
        for gap in self.gaps(patterns):
            if self.would(level, gap) != "help":
                continue
            row = ["."] + list(gap[0]) + ["."]
            for begin in range(len(row) - length + 1):
                piece = row[begin:begin + length]
                # A letter of the row has as many letters before it as its place tells, less one.
                levels = [str(level) if begin + step == gap[1] else "" for step in range(length)]
                before = str(level) if begin - 1 == gap[1] else ""
                name = before + "".join([sign + digit for sign, digit in zip(piece, levels)])
                if 1 <= len(letters_of(name)) <= 6 and str(level) in name and name not in found:
                    found.append(name)
        return found

    def put(self, patterns, taken):
        names = [known_by(one) for one in patterns]
        if known_by(taken) not in names:
            return patterns + [taken]
        at = names.index(known_by(taken))
        digits = [max(pair) for pair in zip(digits_of(patterns[at]), digits_of(taken))]
        name = known_by(taken)
        text = "".join([str(digit or "") + letter for digit, letter in zip(digits, name.strip(".") + " ")]).strip()
        text = ("." if name[0] == "." else "") + text + ("." if name[-1] == "." else "")
        return patterns[:at] + [text] + patterns[at + 1:]

    def round(self, patterns, level, length, gain, loss, threshold):
        told = [(one, self.counts(patterns, one)) for one in self.candidates(patterns, level, length)]
        taken = [(one, had) for one, had in told if had[0] >= 1 and gain * had[0] >= threshold + loss * had[1]]
        after = patterns
        for one, had in taken:
            after = self.put(after, one)
        return after, [len(taken), len(told), sum(had[0] for one, had in taken),
                       sum(had[1] for one, had in taken), len(after)]

    def score(self, patterns):
        exact = 0
        for word in self.words:
            gaps = [gap for gap in self.gaps(patterns) if gap[0] == letters_of(word)]
            exact += all(gap[2] == gap[3] for gap in gaps)
        gaps = self.gaps(patterns)
        return [exact, len([1 for gap in gaps if gap[2] and gap[3]]),
                len([1 for gap in gaps if gap[3] and not gap[2]]), len([1 for gap in gaps if gap[2] and not gap[3]])]

    def answer(self, call):
        number, rest = call[0], call[1:]
        if number == 0:
            try:
                margins, words, patterns = read(bytes(rest[1:]).decode("latin-1"))
            except Wrong as e:
                return [0] + list(e.args)
            self.margins, self.words, self.first = margins, words, patterns
            self.patterns, self.earlier = patterns, []
            return [1, len(words), len(patterns)]
        if self.margins is None:
            return [-1]
        if number == 1:
            if not is_round(rest):
                return [-4]
            after, told = self.round(self.patterns, *rest)
            if len(after) > 200:
                return [-7]
            self.make(after)
            return told
        if number == 2:
            return self.rounds(rest[1:])
        if number == 3:
            if not is_round(rest + [0, 0, 0]):
                return [-4]
            told = self.candidates(self.patterns, *rest)
            return [len(told)] + [number for one in told[:20]
                                  for number in [len(one)] + as_bytes(one) + self.counts(self.patterns, one)]
        chunk = bytes(rest[1:]).decode("latin-1")
        if number != 4:
            return self.later_answer(number, chunk)
        if not is_pattern(chunk) or len(re.findall("[1-9]", chunk)) > 1:
            return [-4]
        return self.counts(self.patterns, chunk)

    def later_answer(self, number, letters):
        if number == 5:
            return [len(self.patterns)] + [told for one in self.patterns for told in [len(one)] + as_bytes(one)]
        if number == 6:
            return [len(self.patterns)] + self.score(self.patterns)
        if number == 7:
            if not re.fullmatch("[a-z]{2,16}", letters):
                return [-4]
            gaps = [gap for gap in range(1, len(letters))
                    if gap >= self.margins[0] and len(letters) - gap >= self.margins[1]
                    and self.level(self.patterns, letters, gap) % 2 == 1]
            return [len(gaps)] + gaps
        if number == 8:
            if not self.earlier:
                return [-8]
            self.patterns = self.earlier.pop()
        else:
            self.patterns, self.earlier = self.first, []
        return [len(self.patterns)]

    def make(self, after):
        self.earlier.append(self.patterns)
        self.patterns = after

    def rounds(self, numbers):
        several = [numbers[at:at + 5] for at in range(0, len(numbers), 5)]
        if len(several) > 10 or not all(len(one) == 5 and is_round(one) for one in several):
            return [-4]
        after = self.patterns
        for one in several:
            after = self.round(after, *one)[0]
            if len(after) > 200:
                return [-7]
        if several:
            self.make(after)
        return [len(after)] + self.score(after)


def is_round(numbers):
    return numbers[0] in range(1, 10) and numbers[1] in range(1, 9) and all(one in range(1001) for one in numbers[2:])


def chance_word(chance, letters, longest=9):
    plain = [chance.choice(letters) for at in range(chance.randint(2, longest))]
    return "".join([letter + chance.choice(["", "", "-"]) for letter in plain[:-1]]) + plain[-1]


def chance_pattern(chance, letters, most_digits=3):
    size = chance.randint(1, 5)
    digits = [""] * (size + 1)
    for step in range(chance.randint(1, most_digits)):
        digits[chance.randint(0, size)] = chance.choice("1122334")
    inner = digits[0] + "".join([chance.choice(letters) + digit for digit in digits[1:]])
    return chance.choice(["", "", "."]) + inner + chance.choice(["", "", "."])


def each_once(chunks):
    return list({known_by(chunk): chunk for chunk in chunks}.values())


def chance_text(chance, letters):
    words = each_once([chance_word(chance, letters) for step in range(chance.randint(0, 6))])
    patterns = each_once([chance_pattern(chance, letters) for step in range(chance.randint(0, 4))])
    lines = [f"margins {chance.randint(0, 3)} {chance.randint(0, 3)} ;"]
    lines += [f"word {word} ;" for word in words] + [f"pattern {pattern} ;" for pattern in patterns]
    return "\n".join(lines) + chance.choice(["", "\n", " # end"])


def spoiled(chance, text):
    """Give a text with one or two pieces of it lost, doubled, or another put there."""
    for step in range(chance.randint(1, 2)):
        at = chance.randint(0, len(text))
        to = at + chance.choice([0, 1, 1, 2, 5])
        put = chance.choice(["", "", text[at:to] * 2, "-", ".", "1", "0", ";", "#", " word ", " pattern ", "!", "ab"])
        text = text[:at] + put + text[to:]
    return text


def chance_numbers(chance):
    numbers = [chance.randint(1, 4), chance.randint(1, 8), chance.randint(0, 3), chance.randint(0, 2),
               chance.randint(0, 3)]
    if chance.randint(0, 9) == 0:
        numbers[chance.randint(0, 4)] = chance.choice([-1, 0, 9, 10, 1000, 1001, BIG, -BIG])
    return numbers


def chance_letters(chance, letters):
    if chance.randint(0, 7) == 0:
        return spoiled(chance, chance_word(chance, letters))
    size = chance.choice([1, 2, 16, 17]) if chance.randint(0, 5) == 0 else chance.randint(2, 16)
    return "".join([chance.choice(letters) for at in range(size)])


def chance_later_call(chance, letters):
    pick = chance.randint(0, 9)
    if pick <= 1:
        return patterns()
    if pick <= 3:
        return score()
    if pick <= 5:
        return part(chance_letters(chance, letters))
    return undo() if pick <= 8 else forget()


def chance_call(chance, letters):
    if chance.randint(0, 1) == 0:
        return chance_later_call(chance, letters)
    pick = chance.randint(0, 9)
    if pick == 0:
        return load(spoiled(chance, chance_text(chance, letters)))
    if pick <= 3:
        return round_of(*chance_numbers(chance))
    if pick == 4:
        flat = [number for step in range(chance.choice([0, 1, 2, 3, 11])) for number in chance_numbers(chance)]
        return rounds(*flat[chance.choice([0, 0, 0, 1]):])
    if pick <= 7:
        return candidates(*chance_numbers(chance)[:2])
    pattern = chance_pattern(chance, letters, chance.choice([1, 1, 1, 2]))
    return count(pattern if chance.randint(0, 5) else spoiled(chance, pattern))


class Reference(unittest.TestCase):
    def assert_same(self, calls):
        one = Object()
        expected = [one.answer(list(call)) for call in calls]
        self.assertEqual(split(answers([number for call in calls for number in call])), expected, calls)

    def test_chance_lines(self):
        for seed in range(250):
            chance = random.Random(seed)
            letters = chance.choice(["ab", "abc", "abcde"])
            calls = [load(chance_text(chance, letters))] if chance.randint(0, 9) else []
            calls += [chance_call(chance, letters) for step in range(chance.randint(1, 20 - len(calls)))]
            self.assert_same(calls)

    def test_chance_lines_of_rounds_and_undos(self):
        for seed in range(150):
            chance = random.Random(seed)
            calls = [load(chance_text(chance, "abc"))]
            while len(calls) < 19:
                made = round_of(*chance_numbers(chance))
                several = rounds(*chance_numbers(chance), *chance_numbers(chance))
                calls.append(chance.choice([made, made, several, undo(), undo(), patterns(), score(), forget(),
                                            rounds(), part(chance_letters(chance, "abc"))]))
            self.assert_same(calls + [patterns()])

    def test_chance_texts(self):
        for seed in range(1500):
            chance = random.Random(seed)
            self.assert_same([load(spoiled(chance, chance_text(chance, "abc")))])

    def test_long_words(self):
        for seed in range(6):
            chance = random.Random(seed)
            words = each_once([chance_word(chance, "abcdefgh", 16) for step in range(10)])
            text = "margins 2 2 ;" + "".join([f"word {word};" for word in words])
            self.assert_same([load(text), round_of(1, 3, 1, 1, 1), candidates(2, 4), round_of(2, 4, 1, 1, 1), rounds()])


if __name__ == "__main__":
    unittest.main()
