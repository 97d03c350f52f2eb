"""The calls as the interface tells them, for all tests: built here, and their answers taken apart."""

from partrounds.learning import Learner, answer_of, answers, span_of

BIG = 10 ** 18
WORKED = "margins 1 1 ; word ta-ble ; word ca-ble ; word ab-le ;"


def row(numbers):
    return [len(numbers)] + list(numbers)


def as_bytes(text):
    return list(text.encode("latin-1")) if isinstance(text, str) else list(text)


def load(text):
    return [0] + row(as_bytes(text))


def round_of(level, length, gain, loss, threshold):
    return [1, level, length, gain, loss, threshold]


def rounds(*numbers):
    return [2] + row(numbers)


def candidates(level, length):
    return [3, level, length]


def count(pattern):
    return [4] + row(as_bytes(pattern))


def patterns():
    return [5]


def score():
    return [6]


def part(letters):
    return [7] + row(as_bytes(letters))


def undo():
    return [8]


def forget():
    return [9]


def split(told):
    """Take what answers gave apart: one list of numbers for each call."""
    parts = []
    at = 0
    while at < len(told):
        parts.append(told[at + 1:at + 1 + told[at]])
        at += 1 + told[at]
    assert at == len(told), "the counts don't fit the answers"
    return parts


def ask(*calls):
    """Hand calls in as one line, and give each one's answer."""
    flat = [number for call in calls for number in call]
    parts = split(answers(flat))
    assert len(parts) == len(calls), "not one answer for each call"
    return parts


def ask_after(text, *calls):
    """Hand calls in behind the load of a right text, and give each one's answer but the load's."""
    parts = ask(load(text), *calls)
    assert parts[0][0] == 1, f"the text is refused: {parts[0]}"
    return parts[1:]


def as_text(numbers):
    return bytes(numbers).decode("latin-1")


def shown(answer):
    """Take an answer of candidates apart: how many, and (pattern, helps, hurts) for those told."""
    told = []
    at = 1
    while at < len(answer):
        size = answer[at]
        told.append((as_text(answer[at + 1:at + 1 + size]), answer[at + 1 + size], answer[at + 2 + size]))
        at += size + 3
    return answer[0], told


def named(answer):
    """Take an answer of patterns apart: each pattern as a text, in order."""
    told = []
    at = 1
    while at < len(answer):
        told.append(as_text(answer[at + 1:at + 1 + answer[at]]))
        at += 1 + answer[at]
    assert (len(told), at) == (answer[0], len(answer)), "the counts don't fit the patterns"
    return told


def text_of(margins, words=(), patterns=()):
    """Give a text in its one form."""
    lines = [f"margins {margins[0]} {margins[1]} ;\n"]
    lines += [f"word {word} ;\n" for word in words]
    lines += [f"pattern {pattern} ;\n" for pattern in patterns]
    return "".join(lines)


def full_words():
    """Words that may be parted at all gaps, and how many pieces of length 2 they have together."""
    letters = "abcdefghijklmnopqrstuvwxyz"
    words = [[letters[(first + step * at) % 26] for at in range(16)] for first, step in
             enumerate((1, 3, 5, 7, 9, 11, 15, 17, 19, 21, 23))]
    pieces = set()
    for word in words:
        edged = "." + "".join(word) + "."
        pieces.update([edged[at:at + 2] for at in range(17)])
    return ["-".join(word) for word in words], len(pieces)


def crowded(patterns_after, more_words=()):
    """Give a text from which round(1, 2, 1, 0, 0) makes so many patterns, those by more words not among them."""
    words, pieces = full_words()
    assert 160 <= pieces < 200
    lone = [f"{a}{b}{a}1{b}" for a in "abcdef" for b in "uvwxyz"]
    return text_of((1, 1), words + list(more_words), lone[:patterns_after - pieces])


class Session:
    """Calls one by one, on the object that they share, for what a line of twenty calls can't show."""

    def __init__(self, text):
        self.learner = Learner()
        assert self.ask(load(text))[0] == 1

    def ask(self, call):
        """Hand one call in, as in a line, and give its answer."""
        begin, end = span_of(call, 0)
        return answer_of(self.learner, call[0], call[begin:end])

    def state(self):
        """Give all that the object holds, such that two of them can be compared."""
        learner = self.learner
        return learner.held, list(learner.patterns.items()), [list(one.items()) for one in learner.earlier]
