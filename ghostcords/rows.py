"""Rows of cords: those of a lot, in order, and their weavings."""


def rows_of(lot):
    """The list of all rows of cords of the lot but the empty one, in order."""
    rows = []
    longest = [()]
    for _ in lot:
        longest = [row + (cord,) for row in longest for cord in lot if cord not in row]
        rows.extend(longest)
    return rows


def leads_of(lot):
    """The list of all rows that lead of cords of the lot, in order."""
    rows = []
    longest = [(cord,) for cord in lot]
    for _ in lot:
        rows.extend(longest)
        longest = [row + (cord,) for row in longest for cord in lot if cord > row[0] and cord not in row]
    return rows


def key_rows(lot):
    """The list of all rows without the least cord of the lot, and of those that begin with it.

    Each part of such a row is one of them, so their counts alone tell those of words behind one another.
    Shorter parts of a row stand ahead of it.
    """
    rows = [(), *rows_of(lot[1:])]
    return rows + [lot[:1] + row for row in rows] if lot else rows


def weavings(one, other):
    """The list of all weavings of two rows, which are tuples without a common cord."""
    if not one or not other:
        return [one + other]
    ahead = [one[:1] + rest for rest in weavings(one[1:], other)]
    behind = [other[:1] + rest for rest in weavings(one, other[1:])]
    return ahead + behind
