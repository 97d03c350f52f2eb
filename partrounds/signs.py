"""The bytes that mean something in a text."""

TAB = 9
LINE_FEED = 10
BLANK = 32
REMARK = 35
HYPHEN = 45
POINT = 46
ZERO = 48
SIGN = 59


def is_letter(byte):
    """Tell whether a byte is a small letter."""
    return 97 <= byte <= 122


def is_digit(byte):
    """Tell whether a byte is a digit from 0 to 9."""
    return ZERO <= byte <= ZERO + 9


def spelled(word):
    """Give the bytes of a written word."""
    return tuple([ord(sign) for sign in word])
