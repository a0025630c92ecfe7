"""Changes of a word that leave all its counts: letters struck, put in, swapped."""

from ghostcords.checks import CORDS, is_within
from ghostcords.errors import BadNumber
from ghostcords.needs import need_cord, need_number, need_sign
from ghostcords.words import Word, need_word, opposite_letter


def struck(word, at):
    """The word with the letters at and at + 1 struck, which must be opposite."""
    need_word(word, "word")
    if not is_within(at, 0, len(word) - 2):
        raise BadNumber("at")
    if word.letters[at + 1] != opposite_letter(word.letters[at]):
        raise BadNumber("at")
    return Word(word.letters[:at] + word.letters[at + 2:])


def put_in(word, at, cord, sign):
    """The word with a letter and its opposite put in ahead of letter at."""
    need_word(word, "word")
    need_number(at, "at", 0, len(word))
    need_cord(cord, CORDS)
    need_sign(sign, "sign")
    return Word(word.letters[:at] + ((cord, sign), (cord, -sign)) + word.letters[at:])


def swapped(word, at, end):
    """The word with letter at and the block of the letters from at + 1 to end - 1 swapped."""
    need_word(word, "word")
    need_number(at, "at", 0, len(word) - 1)
    need_number(end, "end", at + 2, len(word))
    letters = word.letters
    if not is_block(letters[at + 1:end], letters[at][0]):
        raise BadNumber("end")
    return Word(letters[:at] + letters[at + 1:end] + letters[at:at + 1] + letters[end:])


def is_block(letters, cord):
    """Whether letters are u, a letter of this cord, and the opposite of u."""
    middle = len(letters) // 2
    if len(letters) != 2 * middle + 1 or letters[middle][0] != cord:
        return False
    return all([letters[at] == opposite_letter(letters[-1 - at]) for at in range(middle)])


def swaps(word):
    """The tuple of all pairs (at, end) that can be swapped, ascending."""
    need_word(word, "word")
    pairs = []
    for middle in range(1, len(word)):
        pairs.extend(swaps_around(word.letters, middle))
    return tuple(sorted(pairs))


def swaps_around(letters, middle):
    """The pairs (at, end) of the swaps of a block with this letter in its middle."""
    cord = letters[middle][0]
    pairs = []
    for at in range(middle - 1, -1, -1):
        end = 2 * middle - at
        if letters[at][0] == cord:
            pairs.append((at, end))
        if end >= len(letters) or letters[end] != opposite_letter(letters[at]):
            break
    return pairs
