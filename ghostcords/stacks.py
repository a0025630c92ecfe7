"""What cords see in tangles put below one another, and in one where a single cord winds.

Readings stand here as dicts: the tally over the others, for each cord of a lot.
"""

from ghostcords.forms import lesser_of, numbers_of
from ghostcords.rows import rows_of, weavings
from ghostcords.seeing import name_count, others_of
from ghostcords.tallies import all_leads, blank_tally, full_tally, product_tally


def tallies_of_form(form, lot):
    """What the first cords of a Form, which make this lot, see in each tangle with this form without the others.

    In its knit tangle the greatest cord winds first, and below it hangs that of the lesser cords.
    """
    tallies = {}
    for at, cord in enumerate(lot):
        wound = tallies_of_wound(lot[:at + 1], cord, form_tally(form, cord))
        tallies = tallies_below(wound, tallies)
    return tallies


def form_tally(form, cord):
    """The tally over the lesser cords with the numbers of a cord of a Form."""
    lesser = lesser_of(form.lot, cord)
    return full_tally(lesser, all_leads(lesser, numbers_of(form, cord)))


def tallies_below(upper, lower):
    """What the cords see with upper above lower, in which the cords that it lacks hang straight."""
    rows = [(), *rows_of(tuple(upper))]
    ways = letter_ways(upper, lower, [row for row in rows if len(row) < len(upper)])
    tallies = {}
    for cord, tally in upper.items():
        if cord in lower:
            replaced = {row: replaced_count(lower[cord], ways[row]) for row in tally}
            tallies[cord] = product_tally(tally, replaced)
        else:
            tallies[cord] = tally
    return tallies


def letter_ways(upper, cords, rows):
    """How each of these rows, which stand in order, comes of letters of these cords.

    Each letter is replaced by the name that its cord has behind upper, which counts a part of the row. For
    each row a dict: for each row of letters the sum of the products of counts, over all cuts into parts.
    """
    ways = {(): {(): 1}}
    names = {row: part_names(upper, cords, row) for row in rows}
    for row in rows[1:]:
        here = {}
        for cut in range(len(row)):
            for letter, count in names[row[cut:]]:
                for ahead, total in ways[row[:cut]].items():
                    letters = ahead + letter
                    here[letters] = here.get(letters, 0) + total * count
        ways[row] = here
    return ways


def part_names(upper, cords, row):
    """The pairs of a row of one of these cords, and the count, other than 0, of a row in its name behind upper."""
    pairs = [((cord,), name_count(upper[cord], cord, row)) for cord in row if cord in cords]
    return [(letter, count) for letter, count in pairs if count != 0]


def replaced_count(tally, ways):
    """The count of a row with each letter replaced by a name, from the ways in which it comes of letters."""
    return sum([total * tally.get(letters, 0) for letters, total in ways.items()])


def tallies_of_wound(lot, cord, counts):
    """What the cords of a lot see if its last one winds by a word with these counts, the others hanging straight."""
    tallies = {}
    for other in lot[:-1]:
        rows = blank_tally(others_of(lot, other))
        tallies[other] = {row: count_of_lesser(other, cord, counts, row) for row in rows}
    tallies[cord] = counts
    return tallies


def count_of_lesser(lesser, cord, counts, row):
    """The count of a row in what a lesser cord sees of the one that winds by a word with these counts."""
    if cord not in row:
        return 1 if row == () else 0
    at = row.index(cord)
    total = 0
    for woven in weavings(row[:at][::-1], row[at + 1:]):
        total += counts.get(woven + (lesser,), 0)
        if woven and woven[-1] < lesser:
            total += counts.get(woven, 0)
    return total if at % 2 == 0 else -total
