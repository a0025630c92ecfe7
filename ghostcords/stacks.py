"""What cords see in tangles put below one another, and in one where a single cord winds.

Readings stand here as dicts: the tally over the others, for each cord of a lot.
"""

from ghostcords.rows import weavings
from ghostcords.seeing import name_count, others_of
from ghostcords.tallies import blank_tally, product_tally


def straight_tallies(lot):
    """What the cords of a straight tangle see."""
    return {cord: blank_tally(others_of(lot, cord)) for cord in lot}


def tallies_below(upper, lower):
    """What the cords see in a tangle with upper above one with lower."""
    return {cord: product_tally(upper[cord], replaced_tally(lower[cord], upper)) for cord in upper}


def replaced_tally(tally, upper):
    """The tally with each letter replaced by the name that its cord has behind upper."""
    return {row: replaced_count(tally, upper, row) for row in tally}


def replaced_count(tally, upper, row):
    """The count of a row with each letter replaced by the name that its cord has behind upper.

    Each part of the row, in all cuts into parts, is counted in the name of one of its cords.
    """
    ways = [{(): 1}]
    for end in range(1, len(row) + 1):
        here = {}
        for start in range(end):
            for cords, total in ways[start].items():
                for cord in row[start:end]:
                    added = total * name_count(upper[cord], cord, row[start:end])
                    here[cords + (cord,)] = here.get(cords + (cord,), 0) + added
        ways.append(here)
    return sum([total * tally[cords] for cords, total in ways[-1].items()])


def tallies_of_wound(lot, cord, counts):
    """What the cords see if this one winds by a word with these counts, the others hanging straight."""
    tallies = straight_tallies(lot)
    for other in lot:
        if other == cord:
            tallies[other] = {row: counts.get(row, 0) for row in tallies[other]}
        elif other < cord:
            tallies[other] = {row: count_of_lesser(other, cord, counts, row) for row in tallies[other]}
    return tallies


def count_of_lesser(lesser, cord, counts, row):
    """The count of a row in what a lesser cord sees of the one that winds by a word with these counts."""
    if cord not in row:
        return 1 if row == () else 0
    at = row.index(cord)
    total = 0
    for woven in weavings(row[:at][::-1], row[at + 1:]):
        total += counts.get(woven + (lesser,), 0)
        if woven and woven[-1] < lesser:
            total += counts.get(woven, 0)
    return total if at % 2 == 0 else -total
