"""Rows of cords: those of a lot, in order, and their weavings."""


def rows_of(lot):
    """The list of all rows of cords of the lot but the empty one, in order."""
    rows = []
    longest = [()]
    for _ in lot:
        longest = [row + (cord,) for row in longest for cord in lot if cord not in row]
        rows.extend(longest)
    return rows


def leads_of(lot):
    """The list of all rows that lead of cords of the lot, in order."""
    return [row for row in rows_of(lot) if row[0] == min(row)]


def weavings(one, other):
    """The list of all weavings of two rows, which are tuples without a common cord."""
    if not one or not other:
        return [one + other]
    ahead = [one[:1] + rest for rest in weavings(one[1:], other)]
    behind = [other[:1] + rest for rest in weavings(one, other[1:])]
    return ahead + behind
