"""Tallies: the counts that words have, as dicts.

A tally of a lot has the count of each row of cords of the lot, the empty one too. A key tally has those
of the key rows of the lot alone, which tell all others; it is much smaller where there are many cords.
"""

from ghostcords.overs import ways_over
from ghostcords.rows import key_rows, leads_of, rows_of


def blank_tally(lot):
    """The tally of the empty word."""
    tally = {row: 0 for row in rows_of(lot)}
    tally[()] = 1
    return tally


def key_tally(lot, leads):
    """The key tally with these counts, a dict, at the rows that lead; rows that it lacks have 0."""
    counts = all_leads(lot, leads)
    tail = full_tally(lot[1:], counts)
    return {row: tail[row] if row in tail else counts[row] for row in key_rows(lot)}


def all_leads(lot, leads):
    """The counts at the empty row and at all rows that lead, those that are lacking being 0."""
    counts = {row: leads.get(row, 0) for row in leads_of(lot)}
    counts[()] = 1
    return counts


def full_tally(lot, known):
    """The tally that the counts of the empty row and of the rows that lead, at least, tell by the order rule."""
    tally = {(): 1}
    turned = {}
    for row in rows_of(lot):
        if row in known:
            tally[row] = known[row]
            turned[row] = known[row]
        else:
            at = row.index(min(row))
            turned[row] = turned_count(known, row, at)
            total = turned[row]
            for cut in range(1, at + 1):
                total = total + tally[row[:cut]] * turned[row[cut:]]
            tally[row] = total
    return tally


def told_count(keys, row):
    """The count that a key tally tells for a row, not the empty one."""
    at = row.index(min(row))
    return sum([keys[row[:cut]] * turned_count(keys, row[cut:], at - cut) for cut in range(at + 1)])


def turned_count(known, row, at):
    """The count that a row, with its least cord there, would have if rows without this cord had none."""
    woven = woven_count(known, row[at:at + 1], row[:at][::-1], row[at + 1:])
    return woven if at % 2 == 0 else -woven


def woven_count(known, ahead, one, other):
    """The sum of the counts of all weavings of two rows, each with a row put ahead of it."""
    if not one or not other:
        return known[ahead + one + other]
    first = woven_count(known, ahead + one[:1], one[1:], other)
    return first + woven_count(known, ahead + other[:1], one, other[1:])


def lead_counts(letters, lot):
    """The counts of the word with these letters at the rows of a lot that lead, and the empty one."""
    counts = all_leads(lot, {})
    ending = {cord: [lead for lead in counts if lead[-1:] == (cord,)] for cord in lot}
    for cord, sign in letters:
        # No row of these has the cord twice, so none of their beginnings is among them.
        for row in ending.get(cord, ()):
            counts[row] = counts[row] + sign * counts[row[:-1]]
    return counts


def product_tally(one, other):
    """The tally, or key tally, of a word with another one behind it."""
    return {row: cut_sum(one, other, row) for row in one}


def cut_sum(one, other, row):
    """The sum of the products of counts over the cuts of a row into a first and a last part."""
    return sum([one[row[:cut]] * other[row[cut:]] for cut in range(len(row) + 1)])


def opposite_tally(tally):
    """The key tally of the opposite word."""
    opposite = {}
    for row in tally:
        backwards = row[::-1]
        if backwards in tally:
            opposite[row] = tally[backwards] if len(row) % 2 == 0 else -tally[backwards]
        else:
            # A word and its opposite behind it count 0 at this row, over all cuts.
            opposite[row] = -sum([tally[row[:cut]] * opposite[row[cut:]] for cut in range(1, len(row) + 1)])
    return opposite


def part_sums(tally, sums, row):
    """Of the cuts of a row into two parts or more, none empty, the sums of the products of their counts.

    A list, by how many parts they are. sums has the like of each shorter beginning of the row, with the
    count of the beginning itself for one part.
    """
    here = [0] * (len(row) + 1)
    for cut in range(1, len(row)):
        count = tally[row[cut:]]
        if count != 0:
            for parts, total in enumerate(sums[row[:cut]]):
                here[parts + 1] = here[parts + 1] + total * count
    return here


def weighed(ways, totals):
    """The sum of the products of the numbers of ways and the totals for one part or more."""
    return sum([ways[parts] * total for parts, total in enumerate(totals) if total != 0])


def repeated_tally(tally, times):
    """The key tally of the word so many times, any integer."""
    ways = ways_over(times, longest_row(tally))
    repeated = {}
    sums = {}
    for row, count in tally.items():
        totals = part_sums(tally, sums, row)
        if row == ():
            repeated[row] = 1
        else:
            totals[1] = count
            repeated[row] = weighed(ways, totals)
        sums[row] = totals
    return repeated


def root_tally(tally, times):
    """The key tally that so many times, not 0, is this one; None if there is none."""
    ways = ways_over(times, longest_row(tally))
    root = {}
    sums = {}
    for row, count in tally.items():
        totals = part_sums(root, sums, row)
        if row == ():
            root[row] = 1
        else:
            # What is left when shorter rows have made their part is so many times the count itself.
            rest = count - weighed(ways, totals)
            if rest % times != 0:
                return None
            root[row] = rest // times
            totals[1] = root[row]
        sums[row] = totals
    return root


def longest_row(tally):
    """How many cords the longest row of a tally has."""
    return max([len(row) for row in tally])
