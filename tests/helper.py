"""The calls as the interface tells them, for all tests: built here, and their answers taken apart."""

from partrounds.chunks import pattern_bytes
from partrounds.learning import Learner, answers, load as load_into

BIG = 10 ** 18
WORKED = "margins 1 1 ; word ta-ble ; word ca-ble ; word ab-le ;"


def row(numbers):
    return [len(numbers)] + list(numbers)


def as_bytes(text):
    return list(text.encode("latin-1")) if isinstance(text, str) else list(text)


def load(text):
    return [0] + row(as_bytes(text))


def round_of(level, length, gain, loss, threshold):
    return [1, level, length, gain, loss, threshold]


def rounds(*numbers):
    return [2] + row(numbers)


def candidates(level, length):
    return [3, level, length]


def count(pattern):
    return [4] + row(as_bytes(pattern))


def split(told):
    """Take what answers gave apart: one list of numbers for each call."""
    parts = []
    at = 0
    while at < len(told):
        parts.append(told[at + 1:at + 1 + told[at]])
        at += 1 + told[at]
    assert at == len(told), "the counts don't fit the answers"
    return parts


def ask(*calls):
    """Hand calls in as one line, and give each one's answer."""
    flat = [number for call in calls for number in call]
    parts = split(answers(flat))
    assert len(parts) == len(calls), "not one answer for each call"
    return parts


def ask_after(text, *calls):
    """Hand calls in behind the load of a right text, and give each one's answer but the load's."""
    parts = ask(load(text), *calls)
    assert parts[0][0] == 1, f"the text is refused: {parts[0]}"
    return parts[1:]


def shown(answer):
    """Take an answer of candidates apart: how many, and (pattern, helps, hurts) for those told."""
    told = []
    at = 1
    while at < len(answer):
        size = answer[at]
        pattern = "".join([chr(byte) for byte in answer[at + 1:at + 1 + size]])
        told.append((pattern, answer[at + 1 + size], answer[at + 2 + size]))
        at += size + 3
    return answer[0], told


def text_of(margins, words=(), patterns=()):
    """Give a text in its one form."""
    lines = [f"margins {margins[0]} {margins[1]} ;\n"]
    lines += [f"word {word} ;\n" for word in words]
    lines += [f"pattern {pattern} ;\n" for pattern in patterns]
    return "".join(lines)


def learner_with(text):
    """Give the object that the calls share, with a right text loaded."""
    learner = Learner()
    assert load_into(learner, as_bytes(text))[0] == 1
    return learner


def patterns_of(learner):
    """Give the patterns that the object holds, as texts, in order."""
    told = [pattern_bytes(piece, digits) for piece, digits in learner.patterns.items()]
    return ["".join([chr(byte) for byte in one]) for one in told]
