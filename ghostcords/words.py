"""Words: lists of letters, each a pair of a cord and a sign."""

from ghostcords.checks import CORDS, is_cord, is_list, is_pair, is_row, is_sign
from ghostcords.errors import BadRow, BadText, BadWord, TooMany, Twice
from ghostcords.needs import need_cord, need_row
from ghostcords.texts import signed_of, signed_word, words_of

MOST_LETTERS = 2000


def is_letter(value):
    """Whether a value is a letter."""
    return is_pair(value) and is_cord(value[0]) and is_sign(value[1])


def opposite_letter(letter):
    """The letter with the other sign."""
    return (letter[0], -letter[1])


def letter_words(letters):
    """The words of the text of these letters."""
    if not letters:
        return ["."]
    return [signed_word(cord, sign) for cord, sign in letters]


class Word:
    """A word: its letters, and the lot of the cords that occur."""

    def __init__(self, letters=()):
        if not is_list(letters) or not all([is_letter(letter) for letter in letters]):
            raise BadWord("letters")
        if len(letters) > MOST_LETTERS:
            raise TooMany("letters", MOST_LETTERS)
        self.letters = tuple([(cord, sign) for cord, sign in letters])
        self.cords = tuple([cord for cord in CORDS if (cord, 1) in self.letters or (cord, -1) in self.letters])

    def __len__(self):
        return len(self.letters)

    def __mul__(self, other):
        need_word(other, "other")
        return Word(self.letters + other.letters)

    def __invert__(self):
        return Word([opposite_letter(letter) for letter in self.letters[::-1]])

    def __eq__(self, other):
        return isinstance(other, Word) and self.letters == other.letters

    def __str__(self):
        return " ".join(letter_words(self.letters))

    def count(self, row):
        """The count of a row."""
        need_row(row, "row")
        counts = [0] * (len(row) + 1)
        counts[0] = 1
        places = {cord: place for place, cord in enumerate(row)}
        for cord, sign in self.letters:
            if cord in places:
                place = places[cord]
                counts[place + 1] = counts[place + 1] + sign * counts[place]
        return counts[-1]

    def without(self, cord):
        """The word with all letters of a cord struck."""
        need_cord(cord, CORDS)
        return Word([letter for letter in self.letters if letter[0] != cord])

    def as_one(self, one, other):
        """The word with letters of the cord other as letters of one."""
        need_cord(one, CORDS)
        need_cord(other, CORDS)
        if one == other:
            raise Twice(one)
        return Word([(one if cord == other else cord, sign) for cord, sign in self.letters])

    def renamed(self, cords):
        """The word in which cord i has become cords[i]."""
        if not is_row(cords) or len(cords) != len(CORDS):
            raise BadRow("cords")
        return Word([(cords[cord], sign) for cord, sign in self.letters])

    @staticmethod
    def read(text):
        """The word whose text this is."""
        words = words_of(text)
        if words[0] == ".":
            if len(words) > 1:
                raise BadText(0, 1)
            return Word()
        letters = []
        for at, word in enumerate(words):
            letter = signed_of(word, CORDS[-1])
            if letter is None or at == MOST_LETTERS:
                raise BadText(0, at)
            letters.append(letter)
        return Word(letters)


def need_word(value, part):
    """Raises BadWord for what is no Word."""
    if not isinstance(value, Word):
        raise BadWord(part)
