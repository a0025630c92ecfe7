"""What any value is: an integer, a cord, a row, a lot, a name of a thing."""

from ghostcords.papers import fixed

CORDS = (0, 1, 2, 3, 4)
LETTERS = "abcdefghijklmnopqrstuvwxyz"
LETTERS_AND_DIGITS = "abcdefghijklmnopqrstuvwxyz0123456789"
MOST_CHARACTERS = 12


def is_integer(value):
    """Whether a value is an integer; True and False are none."""
    return isinstance(value, int) and not isinstance(value, bool)


def is_within(value, least, most):
    """Whether a value is an integer from least to most, each None for no bound."""
    if not is_integer(value):
        return False
    return (least is None or value >= least) and (most is None or value <= most)


def is_sign(value):
    """Whether a value is 1 or -1."""
    return is_integer(value) and value in (1, -1)


def is_list(value):
    """Whether a value may be passed where a list, a tuple or a pair is told."""
    return isinstance(value, (list, tuple))


def is_pair(value):
    """Whether a value is a list or a tuple of two."""
    return is_list(value) and len(value) == 2


def is_name(value):
    """Whether a value is a name of a thing."""
    if not isinstance(value, str) or not 1 <= len(value) <= MOST_CHARACTERS:
        return False
    return value[0] in LETTERS and all([character in LETTERS_AND_DIGITS for character in value])


def is_cord(value):
    """Whether a value is a cord."""
    return is_within(value, 0, len(CORDS) - 1)


def is_row(value):
    """Whether a value is a list or a tuple of different cords."""
    if not is_list(value) or len(value) > len(CORDS):
        return False
    return all([is_cord(cord) for cord in value]) and first_twice(value) is None


def is_lot(value):
    """Whether a value is a row that ascends."""
    return is_row(value) and list(value) == sorted(value)


def is_leading(value):
    """Whether a value is a row that has a cord, its first one being its least one."""
    return is_row(value) and len(value) > 0 and value[0] == min(value)


def is_row_of(value, lot):
    """Whether a value is a row of cords of a lot."""
    return is_row(value) and all([cord in lot for cord in value])


def row_key(row):
    """What rows, and lots, are ordered by."""
    return (len(row), tuple(row))


def first_twice(values):
    """The first of the values that equals one ahead of it, None if there is none."""
    seen = set()
    for value in fixed(values):
        if value in seen:
            return value
        seen.add(value)
    return None
