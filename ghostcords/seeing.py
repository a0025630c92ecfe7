"""What the cords of a tangle see, as tallies of it over the other cords.

A cord that has seen a word is named (opposite of the word) (cord) (word). So its name counts only rows
with the cord: the part ahead of it in the opposite, the part behind it in the word.
"""

from ghostcords.tallies import blank_tally
from ghostcords.tangles import exchanged


def others_of(lot, cord):
    """The lot without a cord."""
    return tuple([other for other in lot if other != cord])


def name_count(seen, cord, row):
    """The count of a row, not the empty one, in the name of a cord that has seen this tally."""
    if cord not in row:
        return 0
    at = row.index(cord)
    ahead = seen[row[:at][::-1]]
    return (ahead if at % 2 == 0 else -ahead) * seen[row[at + 1:]]


def seen_on(tally, front, seen, sign):
    """The tally behind a crossing of the cord that has seen tally.

    front is the cord in front, which has seen seen; the sign tells whether its name or its opposite is seen.
    """
    return {row: tally[row] + sign * count_of_front(tally, front, seen, row) for row in tally}


def count_of_front(tally, front, seen, row):
    """How much more a row counts in tally with the name of the cord in front behind it."""
    if front not in row:
        return 0
    cuts = range(row.index(front) + 1)
    return sum([tally[row[:cut]] * name_count(seen, front, row[cut:]) for cut in cuts])


def seen_behind(tangle, many):
    """The cords by their places behind so many crossings, and the dict of what each one has seen by then."""
    order = tangle.lot
    seen = {cord: blank_tally(others_of(order, cord)) for cord in order}
    for place, sign in tangle.crossings[:many]:
        left, right = order[place], order[place + 1]
        front, behind = (left, right) if sign == 1 else (right, left)
        seen[behind] = seen_on(seen[behind], front, seen[front], sign)
        order = exchanged(order, place)
    return order, seen
