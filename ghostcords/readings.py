"""Readings: what words count at the rows of a lot."""

from ghostcords.checks import first_twice, is_integer, is_list, is_lot, is_pair
from ghostcords.errors import BadNumber, BadReading, Twice
from ghostcords.needs import need_cord, need_lot, need_number, need_one_lot, need_row
from ghostcords.rows import leads_of
from ghostcords.tallies import full_tally, key_tally, lead_counts, opposite_tally, product_tally, repeated_tally
from ghostcords.tallies import root_tally, told_count
from ghostcords.texts import read_lot, read_numbers, told_words, words_of
from ghostcords.words import need_word


def are_leads(value, rows):
    """Whether a value is a list of pairs of one of these rows and an integer."""
    known = {row: True for row in rows}
    if not is_list(value) or not all([is_pair(pair) for pair in value]):
        return False
    return all([is_known_row(row, known) and is_integer(count) for row, count in value])


def is_known_row(row, known):
    """Whether a value is one of the rows that are known."""
    # What equals an integer need not be one, so the row is looked for only when it is made of them.
    return is_list(row) and all([is_integer(cord) for cord in row]) and tuple(row) in known


def counts_told(pairs):
    """The dict of pairs of a row and an integer; raises Twice for the first row that stood ahead."""
    counts = {tuple(row): count for row, count in pairs}
    if len(counts) < len(pairs):
        raise Twice(first_twice([pair[0] for pair in pairs]))
    return counts


class Reading:
    """The counts of all rows of a lot, told by those of the rows that lead."""

    def __init__(self, lot, leads=()):
        if not is_lot(lot):
            raise BadReading("lot")
        self.lot = tuple(lot)
        rows = leads_of(self.lot)
        if not are_leads(leads, rows):
            raise BadReading("leads")
        counts = counts_told(leads)
        self.leads = tuple([(row, counts[row]) for row in rows if counts.get(row, 0) != 0])
        self._keys = key_tally(self.lot, counts)
        self._tally = None

    @property
    def tally(self):
        """The counts of all rows of the lot, the empty one too."""
        if self._tally is None:
            self._tally = full_tally(self.lot, self._keys)
        return self._tally

    def __mul__(self, other):
        need_reading(other, "other")
        need_one_lot(self.lot, other.lot)
        return reading_with(self.lot, product_tally(self._keys, other._keys))

    def __invert__(self):
        return reading_with(self.lot, opposite_tally(self._keys))

    def __eq__(self, other):
        return isinstance(other, Reading) and self.lot == other.lot and self.leads == other.leads

    def __str__(self):
        return " ".join(told_words(self.lot, self.leads))

    def count(self, row):
        """The count of a row, 0 if it has a cord that is not in the lot."""
        need_row(row, "row")
        told = tuple(row)
        if told in self._keys:
            return self._keys[told]
        return told_count(self._keys, told) if all([cord in self.lot for cord in told]) else 0

    def counts(self):
        """The tuple of the pairs (row, count) of all rows of the lot but the empty one, in order."""
        return tuple([(row, count) for row, count in self.tally.items() if row != ()])

    def repeated(self, times):
        """The reading so many times, any integer."""
        need_number(times, "times")
        return reading_with(self.lot, repeated_tally(self._keys, times))

    def root(self, times):
        """The reading that so many times is this one, None if there is none."""
        if not is_integer(times) or times == 0:
            raise BadNumber("times")
        keys = root_tally(self._keys, times)
        return None if keys is None else reading_with(self.lot, keys)

    def within(self, lot):
        """The reading over this lot."""
        need_lot(lot, "lot")
        return reading_of(tuple(lot), {row: count for row, count in self.leads if all([cord in lot for cord in row])})

    def as_one(self, one, other):
        """The reading with letters of the cord other as letters of one, over the lot without other."""
        need_cord(one, self.lot)
        need_cord(other, self.lot)
        if one == other:
            raise Twice(one)
        lot = tuple([cord for cord in self.lot if cord != other])
        counts = {row: self.tally[row] for row in leads_of(lot)}
        for row in list(counts):
            if one in row:
                counts[row] = counts[row] + self.tally[tuple([other if cord == one else cord for cord in row])]
        return reading_of(lot, counts)

    @staticmethod
    def of(word, lot):
        """The reading of a word over a lot."""
        need_word(word, "word")
        need_lot(lot, "lot")
        return reading_of(tuple(lot), lead_counts(word.letters, lot))

    @staticmethod
    def read(text):
        """The reading whose text this is."""
        words = words_of(text)
        lot, start = read_lot(words, 0)
        return Reading(lot, read_numbers(words, start, leads_of(lot)))


def reading_of(lot, counts):
    """The reading over a lot, a tuple, with these counts, a dict, at the rows that lead; others have 0."""
    return reading_with(lot, key_tally(lot, counts))


def reading_with(lot, keys):
    """The reading over a lot, a tuple, with a key tally, not asked whether it is one."""
    reading = Reading(())
    reading.lot = lot
    reading.leads = tuple([(row, keys[row]) for row in leads_of(lot) if keys[row] != 0])
    reading._keys = keys
    return reading


def need_reading(value, part):
    """Raises BadReading for what is no Reading."""
    if not isinstance(value, Reading):
        raise BadReading(part)
