"""A round's candidates, how often they help and hurt, and the round itself."""

from partrounds.chunks import MOST_PIECE_LETTERS
from partrounds.parting import first_gap, parted_words
from partrounds.signs import POINT

GREATEST_LEVEL = 9
GREATEST_LENGTH = 8
GREATEST_WEIGHT = 1000


def are_level_and_length(level, length):
    """Tell whether a round may have this level and this length."""
    return 1 <= level <= GREATEST_LEVEL and 1 <= length <= GREATEST_LENGTH


def is_round(numbers):
    """Tell whether five numbers tell a round."""
    right = [0 <= number <= GREATEST_WEIGHT for number in numbers[2:]]
    return are_level_and_length(numbers[0], numbers[1]) and all(right)


def pieces_with(row, gap, length):
    """Give each piece with this gap within the margins: the piece, and which of its gaps it is."""
    pieces = []
    # Such a piece has the letter before the gap or the one behind it.
    for begin in range(max(gap - length + 1, 0), min(gap + 1, len(row) - length) + 1):
        piece = row[begin:begin + length]
        if length - piece.count(POINT) <= MOST_PIECE_LETTERS:
            pieces.append((piece, gap - first_gap(begin)))
    return pieces


def tally(words, level, length):
    """Give how often the level helps, and how often it hurts, for each piece and gap of it.

    A candidate stands at a gap just where its piece has that gap, so that the
    pieces found at all gaps count it; those that help come in the candidates' order.
    """
    odd = level % 2 == 1
    helps = {}
    hurts = {}
    for row, gaps in words:
        for gap, may, parted in gaps:
            if parted == odd:
                continue
            counts = helps if may == odd else hurts
            for found in pieces_with(row, gap, length):
                counts[found] = counts.get(found, 0) + 1
    return helps, hurts


def single_digits(piece, gap, level):
    """Give the digits of a pattern with one level, at this gap of it."""
    digits = [0] * (len(piece) - piece.count(POINT) + 1)
    digits[gap] = level
    return tuple(digits)


def candidates_of(words, level, length):
    """Give each candidate in order: its piece, its digits, how often it helps and hurts."""
    helps, hurts = tally(words, level, length)
    candidates = []
    for found, helped in helps.items():
        piece, gap = found
        candidates.append((piece, single_digits(piece, gap, level), helped, hurts.get(found, 0)))
    return candidates


def put_pattern(patterns, piece, digits):
    """Put a pattern behind the others, or into the one with the same letters and points."""
    held = patterns.get(piece, digits)
    patterns[piece] = tuple([max(pair) for pair in zip(held, digits)])


def after_round(held, patterns, numbers):
    """Make a round: give the patterns after it, and how many it took, saw, helped and hurt."""
    level, length, gain, loss, threshold = numbers
    candidates = candidates_of(parted_words(held, patterns), level, length)
    after = {}
    for piece, digits in patterns.items():
        after[piece] = digits
    counts = [0, len(candidates), 0, 0]
    for piece, digits, helped, hurt in candidates:
        if gain * helped >= threshold + loss * hurt:
            put_pattern(after, piece, digits)
            counts = [counts[0] + 1, counts[1], counts[2] + helped, counts[3] + hurt]
    return after, counts
