"""A text's tokens, each with its place, and the faults of texts."""

from partrounds.signs import BLANK, HYPHEN, LINE_FEED, POINT, REMARK, SIGN, TAB, is_digit, is_letter

MOST_CHUNK = 40


class Fault(Exception):
    """What is wrong with a text, and where."""

    def __init__(self, code, place):
        Exception.__init__(self, code, place)
        self.code = code
        self.place = place


def is_chunk_byte(byte):
    """Tell whether a byte may stand in a chunk."""
    return is_letter(byte) or is_digit(byte) or byte == HYPHEN or byte == POINT


def remark_end(text, place):
    """Give the place behind the remark that begins here."""
    while place < len(text) and text[place] != LINE_FEED:
        place += 1
    return place


def chunk_end(text, place):
    """Give the place behind the chunk that begins here; the same place if none does."""
    while place < len(text) and is_chunk_byte(text[place]):
        place += 1
    return place


def tokens_of(text):
    """Give each token as its place and its bytes; the text's end is a token without bytes."""
    tokens = []
    place = 0
    while place < len(text):
        byte = text[place]
        if byte in (BLANK, TAB, LINE_FEED):
            place += 1
        elif byte == REMARK:
            place = remark_end(text, place)
        else:
            end = place + 1 if byte == SIGN else chunk_end(text, place)
            if not 1 <= end - place <= MOST_CHUNK:
                raise Fault(2, place)
            tokens.append((place, tuple(text[place:end])))
            place = end
    tokens.append((place, ()))
    return tokens
