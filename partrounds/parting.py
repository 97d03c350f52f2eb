"""Where words are parted by patterns, and how that stands against what they may be."""

# Six letters and both points.
LONGEST_PIECE = 8


def first_gap(begin):
    """Give the gap before the first letter of a piece that begins at this place of a row."""
    return max(begin - 1, 0)


def raise_levels(levels, gap, digits):
    """Put digits to the levels from this gap on, where they are greater."""
    for step, digit in enumerate(digits):
        levels[gap + step] = max(levels[gap + step], digit)


def levels_of(row, patterns):
    """Give the level at each gap of a row."""
    levels = [0] * (len(row) - 1)
    for begin in range(len(row)):
        for end in range(begin + 1, min(begin + LONGEST_PIECE, len(row)) + 1):
            digits = patterns.get(row[begin:end])
            if digits is not None:
                raise_levels(levels, first_gap(begin), digits)
    return levels


def gaps_within(row, left, right):
    """Give the gaps within the margins; they lie between two letters even where a margin is 0."""
    letters = len(row) - 2
    return list(range(max(left, 1), letters - max(right, 1) + 1))


def inner_gaps(held, row, patterns):
    """Give each gap of a row within the held list's margins, and whether it is parted there."""
    levels = levels_of(row, patterns)
    return [(gap, levels[gap] % 2 == 1) for gap in gaps_within(row, held.left, held.right)]


def parted_words(held, patterns):
    """Give each word's row, with its gaps within the margins: (gap, may be parted, is parted)."""
    words = []
    for row, marks in held.words.items():
        inner = inner_gaps(held, row, patterns)
        words.append((row, [(gap, gap in marks, parted) for gap, parted in inner]))
    return words


def score_of(words):
    """Give how many parted words are exact, and their hits, faults and misses together."""
    score = [0, 0, 0, 0]
    for row, gaps in words:
        hits = len([gap for gap, may, parted in gaps if parted and may])
        faults = len([gap for gap, may, parted in gaps if parted and not may])
        misses = len([gap for gap, may, parted in gaps if may and not parted])
        exact = 1 if faults + misses == 0 else 0
        score = [score[0] + exact, score[1] + hits, score[2] + faults, score[3] + misses]
    return score
