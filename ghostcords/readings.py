"""Readings: what words count at the rows of a lot."""

from ghostcords.checks import first_twice, is_integer, is_leading, is_list, is_lot, is_pair, is_row_of
from ghostcords.errors import BadNumber, BadReading, Twice
from ghostcords.needs import need_cord, need_lot, need_number, need_one_lot, need_row
from ghostcords.rows import leads_of
from ghostcords.tallies import full_tally, letters_tally, opposite_tally, product_tally, repeated_tally, root_tally
from ghostcords.texts import read_lot, read_numbers, told_words, words_of
from ghostcords.words import need_word


def are_leads(value, lot):
    """Whether a value is a list of pairs of a row of the lot that leads and an integer."""
    return is_list(value) and all([is_lead(pair, lot) for pair in value])


def is_lead(value, lot):
    """Whether a value is a pair of a row of the lot that leads and an integer."""
    return is_pair(value) and is_leading(value[0]) and is_row_of(value[0], lot) and is_integer(value[1])


class Reading:
    """The counts of all rows of a lot, told by those of the rows that lead."""

    def __init__(self, lot, leads=()):
        if not is_lot(lot):
            raise BadReading("lot")
        if not are_leads(leads, lot):
            raise BadReading("leads")
        row_twice = first_twice([pair[0] for pair in leads])
        if row_twice is not None:
            raise Twice(row_twice)
        counts = {tuple(row): count for row, count in leads if count != 0}
        self.lot = tuple(lot)
        self.leads = tuple([(row, counts[row]) for row in leads_of(lot) if row in counts])
        self._tally = full_tally(lot, counts)

    def __mul__(self, other):
        need_reading(other, "other")
        need_one_lot(self.lot, other.lot)
        return reading_of(self.lot, product_tally(self._tally, other._tally))

    def __invert__(self):
        return reading_of(self.lot, opposite_tally(self._tally))

    def __eq__(self, other):
        return isinstance(other, Reading) and self.lot == other.lot and self.leads == other.leads

    def __str__(self):
        return " ".join(told_words(self.lot, self.leads))

    def count(self, row):
        """The count of a row, 0 if it has a cord that is not in the lot."""
        need_row(row, "row")
        return self._tally.get(tuple(row), 0)

    def counts(self):
        """The tuple of the pairs (row, count) of all rows of the lot but the empty one, in order."""
        return tuple([(row, count) for row, count in self._tally.items() if row != ()])

    def repeated(self, times):
        """The reading so many times, any integer."""
        need_number(times, "times")
        return reading_of(self.lot, repeated_tally(self._tally, times))

    def root(self, times):
        """The reading that so many times is this one, None if there is none."""
        if not is_integer(times) or times == 0:
            raise BadNumber("times")
        tally = root_tally(self._tally, times)
        return None if tally is None else reading_of(self.lot, tally)

    def within(self, lot):
        """The reading over this lot."""
        need_lot(lot, "lot")
        return Reading(lot, [(row, count) for row, count in self.leads if is_row_of(row, lot)])

    def as_one(self, one, other):
        """The reading with letters of the cord other as letters of one, over the lot without other."""
        need_cord(one, self.lot)
        need_cord(other, self.lot)
        if one == other:
            raise Twice(one)
        lot = tuple([cord for cord in self.lot if cord != other])
        counts = {row: self._tally[row] for row in leads_of(lot)}
        for row in list(counts):
            if one in row:
                counts[row] = counts[row] + self._tally[tuple([other if cord == one else cord for cord in row])]
        return reading_of(lot, counts)

    @staticmethod
    def of(word, lot):
        """The reading of a word over a lot."""
        need_word(word, "word")
        need_lot(lot, "lot")
        return reading_of(lot, letters_tally(word.letters, lot))

    @staticmethod
    def read(text):
        """The reading whose text this is."""
        words = words_of(text)
        lot, start = read_lot(words, 0)
        return Reading(lot, read_numbers(words, start, leads_of(lot)))


def reading_of(lot, tally):
    """The reading over a lot with the counts of a tally, or of a dict of counts of the rows that lead."""
    return Reading(lot, [(row, tally[row]) for row in leads_of(lot)])


def tally_of(reading):
    """The tally of a reading."""
    tally = {(): 1}
    for row, count in reading.counts():
        tally[row] = count
    return tally


def need_reading(value, part):
    """Raises BadReading for what is no Reading."""
    if not isinstance(value, Reading):
        raise BadReading(part)
