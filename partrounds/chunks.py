"""What a chunk tells: a margin, a word or a pattern.

A row is a word's bytes with a point for each of its two edges. A pattern is
its piece (its letters and its points, as they would stand in a row) and its
digits, one for each of its gaps, 0 where it has none.
"""

from partrounds.signs import HYPHEN, POINT, ZERO, is_digit, is_letter

GREATEST_MARGIN = 5
FEWEST_WORD_LETTERS = 2
MOST_WORD_LETTERS = 16
MOST_PIECE_LETTERS = 6


def margin_of(chunk):
    """Give the margin that a chunk tells, or None if it tells none."""
    if len(chunk) != 1 or not ZERO <= chunk[0] <= ZERO + GREATEST_MARGIN:
        return None
    return chunk[0] - ZERO


def row_of(letters):
    """Give the row of 2 to 16 small letters, or None if these are none such."""
    if not FEWEST_WORD_LETTERS <= len(letters) <= MOST_WORD_LETTERS:
        return None
    if not all([is_letter(byte) for byte in letters]):
        return None
    return (POINT,) + tuple(letters) + (POINT,)


def word_of(chunk):
    """Give a word's row and the gaps where it may be parted, or None if the chunk is no word."""
    letters = []
    marks = []
    behind_letter = False
    for byte in chunk:
        if byte != HYPHEN:
            letters.append(byte)
        elif behind_letter:
            marks.append(len(letters))
        else:
            return None
        behind_letter = byte != HYPHEN
    row = row_of(letters)
    if row is None or not behind_letter:
        return None
    return row, tuple(marks)


def without_points(chunk):
    """Give a chunk without a point at its front and one at its end."""
    if chunk[:1] == (POINT,):
        chunk = chunk[1:]
    if chunk[-1:] == (POINT,):
        chunk = chunk[:-1]
    return chunk


def pattern_of(chunk):
    """Give a pattern's piece and its digits, or None if the chunk is no pattern."""
    letters = []
    digits = [0]
    for byte in without_points(chunk):
        if is_letter(byte):
            letters.append(byte)
            digits.append(0)
        elif is_digit(byte) and byte != ZERO and digits[-1] == 0:
            digits[-1] = byte - ZERO
        else:
            return None
    if not 1 <= len(letters) <= MOST_PIECE_LETTERS or max(digits) == 0:
        return None
    return tuple([byte for byte in chunk if not is_digit(byte)]), tuple(digits)


def pattern_bytes(piece, digits):
    """Give the bytes of a pattern's chunk."""
    told = []
    gap = 0
    for place, byte in enumerate(piece):
        # A front point stands before the digit of the first gap, all else behind its gap's digit.
        if byte != POINT or place > 0:
            told.extend(digit_bytes(digits[gap]))
            gap += 1
        told.append(byte)
    if gap < len(digits):
        told.extend(digit_bytes(digits[gap]))
    return told


def digit_bytes(digit):
    """Give the bytes that tell a gap's digit: none for 0."""
    return [ZERO + digit] if digit > 0 else []
