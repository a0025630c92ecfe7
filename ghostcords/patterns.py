"""Patterns: words in blocks, each so many times as an integer t, which nobody tells, makes it."""

from ghostcords.checks import CORDS, is_integer, is_list
from ghostcords.errors import BadPattern, TooMany
from ghostcords.needs import need_lot, need_number, need_row
from ghostcords.polynomials import through
from ghostcords.readings import Reading
from ghostcords.tallies import product_tally, repeated_tally
from ghostcords.words import MOST_LETTERS, Word

MOST_BLOCKS = 12
MOST_BLOCK_LETTERS = 12


def is_block(value):
    """Whether a value is a triple of a Word and two integers."""
    if not is_list(value) or len(value) != 3:
        return False
    return isinstance(value[0], Word) and is_integer(value[1]) and is_integer(value[2])


class Pattern:
    """A pattern: its blocks, triples of a Word, u and v, and the cords that occur in the words."""

    def __init__(self, blocks):
        if not is_list(blocks) or not all([is_block(block) for block in blocks]):
            raise BadPattern("blocks")
        if len(blocks) > MOST_BLOCKS:
            raise TooMany("blocks", MOST_BLOCKS)
        if any([len(word) > MOST_BLOCK_LETTERS for word, _, _ in blocks]):
            raise TooMany("letters", MOST_BLOCK_LETTERS)
        self.blocks = tuple([(word, u, v) for word, u, v in blocks])
        self.cords = tuple([cord for cord in CORDS if any([cord in word.cords for word, _, _ in blocks])])

    def __len__(self):
        return len(self.blocks)

    def __eq__(self, other):
        return isinstance(other, Pattern) and self.blocks == other.blocks

    def __mul__(self, other):
        need_pattern(other, "other")
        return Pattern(self.blocks + other.blocks)

    def __invert__(self):
        return Pattern([(word, -u, -v) for word, u, v in self.blocks[::-1]])

    def put(self, u, v):
        """The pattern with u t + v in the place of t."""
        need_number(u, "u")
        need_number(v, "v")
        return Pattern([(word, its_u * u, its_u * v + its_v) for word, its_u, its_v in self.blocks])

    def word_at(self, t):
        """The Word at t."""
        need_number(t, "t")
        if sum([len(word) * abs(u * t + v) for word, u, v in self.blocks]) > MOST_LETTERS:
            raise TooMany("letters", MOST_LETTERS)
        letters = []
        for word, u, v in self.blocks:
            one = word if u * t + v > 0 else ~word
            letters.extend(list(one.letters) * abs(u * t + v) if len(word) > 0 else [])
        return Word(letters)

    def at(self, t, lot):
        """The Reading over a lot of the word at t."""
        need_number(t, "t")
        need_lot(lot, "lot")
        reading = Reading(lot)
        for word, u, v in self.blocks:
            reading = reading * Reading.of(word, lot).repeated(u * t + v)
        return reading


def need_pattern(value, part):
    """Raises BadPattern for what is no Pattern."""
    if not isinstance(value, Pattern):
        raise BadPattern(part)


def counted(pattern, row):
    """The Binomial that at each t is the count of a row in the word of a Pattern at t."""
    need_pattern(pattern, "pattern")
    need_row(row, "row")
    parts = parts_of(tuple(row))
    blocks = [({part: word.count(part) for part in parts}, u, v) for word, u, v in pattern.blocks]
    # The degree is at most the number of cords of the row.
    return through([count_at(blocks, parts, t) for t in range(len(row) + 1)])


def parts_of(row):
    """The list of all parts of a row that stand together in it, shorter ones first, each once."""
    parts = [()]
    for size in range(1, len(row) + 1):
        parts.extend([row[at:at + size] for at in range(len(row) - size + 1)])
    return parts


def count_at(blocks, parts, t):
    """The count of the last one of these parts in the word at t, from the counts of all of them in the blocks."""
    total = {part: 1 if part == () else 0 for part in parts}
    for counts, u, v in blocks:
        total = product_tally(total, repeated_tally(counts, u * t + v))
    return total[parts[-1]]
