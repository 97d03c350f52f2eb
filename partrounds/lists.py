"""Lists as texts tell them: margins, words and patterns."""

from partrounds.chunks import margin_of, pattern_of, word_of
from partrounds.signs import SIGN, spelled
from partrounds.tokens import Fault, tokens_of

MOST_BYTES = 4096
MOST_WORDS = 24
MOST_PATTERNS = 40


class HeldList:
    """A right list: each word's row with its marks, each pattern's piece with its digits."""

    def __init__(self, left, right, words, patterns):
        self.left = left
        self.right = right
        self.words = words
        self.patterns = patterns


class Reader:
    """A text's tokens, gone through from left to right."""

    def __init__(self, tokens):
        self.tokens = tokens
        self.spot = 0

    def where(self):
        """Give the place of the token that is next."""
        return self.tokens[self.spot][0]

    def is_at(self, word):
        """Tell whether the token that is next is this written one."""
        return self.tokens[self.spot][1] == spelled(word)

    def pass_over(self, word):
        """Go past this written token, which has to be next."""
        if not self.is_at(word):
            raise Fault(3, self.where())
        self.spot += 1

    def take_chunk(self):
        """Go past a chunk, which has to be next, and give it."""
        chunk = self.tokens[self.spot][1]
        if chunk in ((), (SIGN,)):
            raise Fault(3, self.where())
        self.spot += 1
        return chunk


def list_of(text):
    """Give the list that a text tells, or raise its first fault."""
    if len(text) > MOST_BYTES:
        raise Fault(1, MOST_BYTES)
    reader = Reader(tokens_of(text))
    reader.pass_over("margins")
    left = read_margin(reader)
    right = read_margin(reader)
    reader.pass_over(";")
    words = read_named(reader, "word", MOST_WORDS, word_of)
    patterns = read_named(reader, "pattern", MOST_PATTERNS, pattern_of)
    if not reader.is_at(""):
        raise Fault(3, reader.where())
    return HeldList(left, right, words, patterns)


def read_margin(reader):
    """Read one margin."""
    place = reader.where()
    margin = margin_of(reader.take_chunk())
    if margin is None:
        raise Fault(7, place)
    return margin


def read_named(reader, name, most, read_as):
    """Read all words, or all patterns, that come next: what they are known by, with the rest."""
    known = {}
    while reader.is_at(name):
        if len(known) == most:
            raise Fault(4, reader.where())
        reader.pass_over(name)
        place = reader.where()
        told = read_as(reader.take_chunk())
        if told is None:
            raise Fault(7, place)
        if told[0] in known:
            raise Fault(5, place)
        known[told[0]] = told[1]
        reader.pass_over(";")
    return known
