"""The calls on one object, one behind another, and what they answer."""

from partrounds.chunks import pattern_bytes, pattern_of, row_of
from partrounds.lists import list_of
from partrounds.parting import inner_gaps, parted_words, score_of
from partrounds.rounds import after_round, are_level_and_length, candidates_of, is_round, tally
from partrounds.tokens import Fault

NO_LIST = -1
WRONG_NUMBERS = -4
TOO_MANY = -7
NONE_EARLIER = -8

MOST_PATTERNS = 200
MOST_EARLIER = 20
MOST_ROUNDS = 10
MOST_SHOWN = 20
ROUND_NUMBERS = 5


class Learner:
    """What the calls share: the list, the patterns now, and those before the last rounds."""

    def __init__(self):
        self.held = None
        self.patterns = {}
        self.earlier = []

    def keep(self, patterns):
        """Make these the patterns now, such that those before can be brought back."""
        self.earlier = (self.earlier + [self.patterns])[-MOST_EARLIER:]
        self.patterns = patterns

    def hold(self, held):
        """Hold a list with its own patterns, such that none before can be brought back."""
        self.held = held
        self.patterns = held.patterns
        self.earlier = []


def load(learner, text):
    """Hold the list that a text tells, or tell the text's fault."""
    try:
        held = list_of(text)
    except Fault as e:
        return [0, e.code, e.place]
    learner.hold(held)
    return [1, len(held.words), len(held.patterns)]


def round_of(learner, numbers):
    """Make one round."""
    if not is_round(numbers):
        return [WRONG_NUMBERS]
    patterns, counts = after_round(learner.held, learner.patterns, numbers)
    if len(patterns) > MOST_PATTERNS:
        return [TOO_MANY]
    learner.keep(patterns)
    return counts + [len(patterns)]


def rounds_in(numbers):
    """Give the rounds that a list of numbers tells, or None if it tells none."""
    count = len(numbers) // ROUND_NUMBERS
    if len(numbers) != count * ROUND_NUMBERS or count > MOST_ROUNDS:
        return None
    told = [numbers[ROUND_NUMBERS * at:ROUND_NUMBERS * (at + 1)] for at in range(count)]
    return told if all([is_round(single) for single in told]) else None


def rounds(learner, numbers):
    """Make rounds one after the other, as one."""
    told = rounds_in(numbers)
    if told is None:
        return [WRONG_NUMBERS]
    patterns = learner.patterns
    for single in told:
        patterns = after_round(learner.held, patterns, single)[0]
        if len(patterns) > MOST_PATTERNS:
            return [TOO_MANY]
    if told:
        learner.keep(patterns)
    return score(learner)


def told_pattern(piece, digits):
    """Give how many bytes a pattern has, and they."""
    told = pattern_bytes(piece, digits)
    return [len(told)] + told


def candidates(learner, numbers):
    """Tell how many candidates there are, and the first ones with their counts."""
    level, length = numbers
    if not are_level_and_length(level, length):
        return [WRONG_NUMBERS]
    found = candidates_of(parted_words(learner.held, learner.patterns), level, length)
    answer = [len(found)]
    for piece, digits, helped, hurt in found[:MOST_SHOWN]:
        answer.extend(told_pattern(piece, digits) + [helped, hurt])
    return answer


def count_of(learner, chunk):
    """Tell how often a pattern with one digit would help, and hurt."""
    pattern = pattern_of(tuple(chunk))
    if pattern is None:
        return [WRONG_NUMBERS]
    piece, digits = pattern
    level = max(digits)
    if sum(digits) != level:
        return [WRONG_NUMBERS]
    found = (piece, digits.index(level))
    helps, hurts = tally(parted_words(learner.held, learner.patterns), level, len(piece))
    return [helps.get(found, 0), hurts.get(found, 0)]


def patterns_now(learner):
    """Tell the patterns now, in the order in which they are held."""
    answer = [len(learner.patterns)]
    for piece, digits in learner.patterns.items():
        answer.extend(told_pattern(piece, digits))
    return answer


def score(learner):
    """Tell how many patterns there are now, and how the words stand by them."""
    return [len(learner.patterns)] + score_of(parted_words(learner.held, learner.patterns))


def part(learner, letters):
    """Tell where letters are parted by the patterns now."""
    row = row_of(letters)
    if row is None:
        return [WRONG_NUMBERS]
    gaps = [gap for gap, parted in inner_gaps(learner.held, row, learner.patterns) if parted]
    return [len(gaps)] + gaps


def undo(learner):
    """Bring back the patterns before the last round, or before the last rounds made as one."""
    if not learner.earlier:
        return [NONE_EARLIER]
    learner.patterns = learner.earlier[-1]
    learner.earlier = learner.earlier[:-1]
    return [len(learner.patterns)]


def forget(learner):
    """Bring back the list's patterns."""
    learner.hold(learner.held)
    return [len(learner.patterns)]


LOAD = 0
CALLS = {0: load, 1: round_of, 2: rounds, 3: candidates, 4: count_of, 7: part}
BARE_CALLS = {5: patterns_now, 6: score, 8: undo, 9: forget}
# A call has so many whole numbers, or else one row with its length before it, or else nothing.
PLAIN_NUMBERS = {1: 5, 3: 2}
ROW_CALLS = (0, 2, 4, 7)


def span_of(calls, at):
    """Give where the numbers of the call at this place begin, and where they end."""
    if calls[at] in ROW_CALLS:
        return at + 2, at + 2 + calls[at + 1]
    return at + 1, at + 1 + PLAIN_NUMBERS.get(calls[at], 0)


def answer_of(learner, call, numbers):
    """Answer one call."""
    if learner.held is None and call != LOAD:
        return [NO_LIST]
    if call in BARE_CALLS:
        return BARE_CALLS[call](learner)
    return CALLS[call](learner, numbers)


def answers(calls):
    """Answer all calls, in order, on one new object: for each, how many numbers, then these."""
    learner = Learner()
    told = []
    at = 0
    while at < len(calls):
        begin, end = span_of(calls, at)
        answer = answer_of(learner, calls[at], calls[begin:end])
        told.append(len(answer))
        told.extend(answer)
        at = end
    return told
