"""Windings: the words of which each reading is built in just one way."""

from ghostcords.checks import is_leading
from ghostcords.errors import BadReading, BadRow, TooMany
from ghostcords.needs import need_lot
from ghostcords.readings import are_leads, counts_told, need_reading, reading_of
from ghostcords.rows import leads_of
from ghostcords.tallies import all_leads
from ghostcords.words import MOST_LETTERS, Word

WINDING_LETTERS = (0, 1, 4, 10, 22, 46)


def leading_rows(lot):
    """The tuple of all rows that lead of cords of the lot, in order."""
    need_lot(lot, "lot")
    return tuple(leads_of(lot))


def winding(row):
    """The Word that is the winding of a row that leads."""
    if not is_leading(row):
        raise BadRow("row")
    word = Word([(row[0], 1)])
    for cord in row[1:]:
        word = word * Word([(cord, 1)]) * ~word * Word([(cord, -1)])
    return word


def winding_counts(row):
    """The counts, other than 0, of the winding of a row at rows with all its cords, a dict."""
    counts = {(row[0],): 1}
    for cord in row[1:]:
        longer = {}
        for shorter, count in counts.items():
            longer[shorter + (cord,)] = count
            longer[(cord,) + shorter] = -count
        counts = longer
    return counts


def counts_wound(counts, row, times):
    """The counts of a word at rows that lead, where they change with the winding of a row behind so many times."""
    behind = winding_counts(row)
    later = {row: counts[row] + times}
    for lead, count in counts.items():
        cut = len(lead) - len(row)
        if cut > 0 and lead[cut:] in behind:
            later[lead] = count + times * behind[lead[cut:]] * counts[lead[:cut]]
    return later


def exponents(reading):
    """The tuple of the pairs (row, exponent) of a Reading that are not 0, in the order of the rows."""
    need_reading(reading, "reading")
    leads = {row: count for row, count in reading.leads}
    counts = all_leads(reading.lot, {})
    pairs = []
    for row in leads_of(reading.lot):
        times = leads.get(row, 0) - counts[row]
        if times != 0:
            pairs.append((row, times))
            counts.update(counts_wound(counts, row, times))
    return tuple(pairs)


def from_exponents(lot, pairs):
    """The Reading of the lot that has these exponents."""
    need_lot(lot, "lot")
    rows = leads_of(lot)
    if not are_leads(pairs, rows):
        raise BadReading("pairs")
    told = counts_told(pairs)
    counts = all_leads(lot, {})
    for row in rows:
        if row in told:
            counts.update(counts_wound(counts, row, told[row]))
    return reading_of(tuple(lot), counts)


def letters_of(reading):
    """How many letters the Word has, or would have, that the exponents of a Reading tell."""
    return sum([abs(times) * WINDING_LETTERS[len(row)] for row, times in exponents(reading)])


def word_for(reading):
    """The Word that the exponents of a Reading tell."""
    if letters_of(reading) > MOST_LETTERS:
        raise TooMany("letters", MOST_LETTERS)
    letters = []
    for row, times in exponents(reading):
        word = winding(row) if times > 0 else ~winding(row)
        letters.extend(list(word.letters) * abs(times))
    return Word(letters)
