"""Sayings: what is so, or not, for a family."""

from ghostcords.checks import CORDS, is_within
from ghostcords.cuts import least_cuts
from ghostcords.errors import BadSaying, BadText
from ghostcords.families import is_held_by, need_family
from ghostcords.lots import lots_in
from ghostcords.needs import need_cord, need_cords, need_number, need_two_cords
from ghostcords.texts import cord_words, integer_of, read_key, words_of


class Saying:
    """What may be so for a family; only the classes below it are called."""

    def __init__(self, words, cords):
        self._words = words
        self._cords = cords

    def __eq__(self, other):
        return isinstance(other, Saying) and self._words == other._words

    def __str__(self):
        return " ".join(self._words)

    def is_so(self, family):
        """Raises what is told for a Family; what is so, the classes below tell."""
        need_family(family, "family")
        need_cords(self._cords, family.lot)

    @staticmethod
    def read(text):
        """The saying whose text this is."""
        words = words_of(text)
        if words[0] == "spare":
            cords, _ = read_key(words, 1, [(cord,) for cord in CORDS], None)
            return Spare(cords[0])
        if words[0] == "falls":
            return Falls(read_many(words))
        if words[0] not in ("held", "free", "least"):
            raise BadText(0, 0)
        lot, _ = read_key(words, 1, lots_in(CORDS, 2), None)
        if words[0] == "least":
            return Least(lot)
        return Held(lot) if words[0] == "held" else Free(lot)


class Held(Saying):
    """A lot is held."""

    def __init__(self, lot):
        need_two_cords(lot, "lot")
        super().__init__(["held", *cord_words(lot)], tuple(lot))
        self.lot = tuple(lot)

    def __eq__(self, other):
        return isinstance(other, Held) and self.lot == other.lot

    def __str__(self):
        return " ".join(self._words)

    def is_so(self, family):
        """Whether the lot is held in a Family."""
        super().is_so(family)
        return is_held_by(family.least, self.lot)


class Free(Saying):
    """A lot is free."""

    def __init__(self, lot):
        need_two_cords(lot, "lot")
        super().__init__(["free", *cord_words(lot)], tuple(lot))
        self.lot = tuple(lot)

    def __eq__(self, other):
        return isinstance(other, Free) and self.lot == other.lot

    def __str__(self):
        return " ".join(self._words)

    def is_so(self, family):
        """Whether the lot is free in a Family."""
        super().is_so(family)
        return not is_held_by(family.least, self.lot)


class Least(Saying):
    """A lot is least held."""

    def __init__(self, lot):
        need_two_cords(lot, "lot")
        super().__init__(["least", *cord_words(lot)], tuple(lot))
        self.lot = tuple(lot)

    def __eq__(self, other):
        return isinstance(other, Least) and self.lot == other.lot

    def __str__(self):
        return " ".join(self._words)

    def is_so(self, family):
        """Whether the lot is least held in a Family."""
        super().is_so(family)
        return self.lot in family.least


class Spare(Saying):
    """A cord is in no least held lot."""

    def __init__(self, cord):
        need_cord(cord, CORDS)
        super().__init__(["spare", str(cord)], (cord,))
        self.cord = cord

    def __eq__(self, other):
        return isinstance(other, Spare) and self.cord == other.cord

    def __str__(self):
        return " ".join(self._words)

    def is_so(self, family):
        """Whether the cord is in no least held lot of a Family."""
        super().is_so(family)
        return not any([self.cord in lot for lot in family.least])


class Falls(Saying):
    """Some cut has at most so many cords."""

    def __init__(self, many):
        need_number(many, "many", 0, len(CORDS))
        super().__init__(["falls", str(many)], ())
        self.many = many

    def __eq__(self, other):
        return isinstance(other, Falls) and self.many == other.many

    def __str__(self):
        return " ".join(self._words)

    def is_so(self, family):
        """Whether some cut of a Family has at most so many cords."""
        super().is_so(family)
        return len(least_cuts(family)[0]) <= self.many


def read_many(words):
    """The number that stands behind the first word, and nothing behind it."""
    if len(words) < 2:
        raise BadText(0, 1)
    many = integer_of(words[1])
    if not is_within(many, 0, len(CORDS)):
        raise BadText(0, 1)
    if len(words) > 2:
        raise BadText(0, 2)
    return many


def named_cords(saying):
    """The cords that a Saying names."""
    return saying._cords


def need_saying(value, part):
    """Raises BadSaying for what is no Saying."""
    if not isinstance(value, Saying):
        raise BadSaying(part)
