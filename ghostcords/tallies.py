"""Tallies: the counts that words have, as dicts.

A tally of a lot is a dict that has the count of each row of cords of the lot, the empty one too.
"""

from ghostcords.rows import leads_of, rows_of, weavings


def blank_tally(lot):
    """The tally of the empty word."""
    return full_tally(lot, {})


def full_tally(lot, leads):
    """The tally with these counts, a dict, at the rows that lead; rows that it lacks have 0."""
    tally = {(): 1}
    for row in rows_of(lot):
        tally[row] = told_count(tally, leads, row) if leads else 0
    return tally


def told_count(tally, leads, row):
    """The count that the order rule tells for a row, all shorter rows standing in the tally."""
    at = row.index(min(row))
    least = row[at:at + 1]
    total = 0
    for cut in range(at + 1):
        if tally[row[:cut]] != 0:
            rows = weavings(row[cut:at][::-1], row[at + 1:])
            counts = sum([leads.get(least + rest, 0) for rest in rows])
            total += tally[row[:cut]] * (counts if (at - cut) % 2 == 0 else -counts)
    return total


def letters_tally(letters, lot):
    """The tally of the word with these letters."""
    counts = {row: 0 for row in leads_of(lot)}
    ending = {cord: [lead for lead in counts if lead[-1] == cord] for cord in lot}
    counts[()] = 1
    for cord, sign in letters:
        # No row of these has the cord twice, so none of their beginnings is among them.
        for row in ending.get(cord, ()):
            counts[row] = counts[row] + sign * counts[row[:-1]]
    return full_tally(lot, counts)


def product_tally(one, other):
    """The tally of a word with another one behind it."""
    return {row: cut_sum(one, other, row) for row in one}


def cut_sum(one, other, row):
    """The sum of the products of counts over the cuts of a row into a first and a last part."""
    return sum([one[row[:cut]] * other[row[cut:]] for cut in range(len(row) + 1)])


def opposite_tally(tally):
    """The tally of the opposite word."""
    return {row: tally[row[::-1]] if len(row) % 2 == 0 else -tally[row[::-1]] for row in tally}


def part_sums(tally, row):
    """Of all cuts of a row into parts, none empty, the sums of the products of their counts.

    A list, by how many parts they are; a row that the tally lacks counts 0.
    """
    sums = [[1]]
    for end in range(1, len(row) + 1):
        here = [0] * (end + 1)
        for start in range(end):
            count = tally.get(row[start:end], 0)
            for parts, total in enumerate(sums[start]):
                here[parts + 1] = here[parts + 1] + total * count
        sums.append(here)
    return sums[-1]


def over(times, parts):
    """The integer times over parts: times (times - 1) .. divided by parts!."""
    result = 1
    for part in range(parts):
        result = result * (times - part) // (part + 1)
    return result


def repeated_count(sums, times):
    """The count of a row in a word so many times, from the sums over its cuts."""
    return sum([over(times, parts) * total for parts, total in enumerate(sums)])


def repeated_tally(tally, times):
    """The tally of the word so many times, any integer."""
    return {row: repeated_count(part_sums(tally, row), times) for row in tally}


def root_tally(tally, times):
    """The tally that so many times, not 0, is this one; None if there is none."""
    root = {}
    for row in tally:
        # The root lacks this row still, so these are the sums over its cuts into shorter ones.
        rest = tally[row] - repeated_count(part_sums(root, row), times)
        if row == ():
            root[row] = 1
        elif rest % times != 0:
            return None
        else:
            root[row] = rest // times
    return root
