"""Tangles: cords that hang side by side, and their crossings from the pegs downwards."""

from ghostcords.checks import is_list, is_lot, is_pair, is_sign, is_within
from ghostcords.errors import BadTangle, BadText, Misfit, TooMany
from ghostcords.needs import need_cord, need_one_lot
from ghostcords.texts import read_lot, signed_of, signed_word, told_words, words_of

MOST_CROSSINGS = 2000


def are_crossings(value, many):
    """Whether a value is a list of crossings of so many cords."""
    return is_list(value) and all([is_crossing(crossing, many) for crossing in value])


def is_crossing(value, many):
    """Whether a value is a crossing of so many cords."""
    return is_pair(value) and is_within(value[0], 0, many - 2) and is_sign(value[1])


def exchanged(order, place):
    """The cords by their places, the ones at a place and at the next one having exchanged."""
    return order[:place] + (order[place + 1], order[place]) + order[place + 2:]


def order_after(order, crossings):
    """The cords by their places behind these crossings."""
    later = tuple(order)
    for place, _ in crossings:
        later = exchanged(later, place)
    return later


class Tangle:
    """A tangle: its lot, and its crossings, pairs of a place and a sign."""

    def __init__(self, lot, crossings=()):
        if not is_lot(lot) or len(lot) == 0:
            raise BadTangle("lot")
        if not are_crossings(crossings, len(lot)):
            raise BadTangle("crossings")
        if order_after(lot, crossings) != tuple(lot):
            raise BadTangle("ends")
        if len(crossings) > MOST_CROSSINGS:
            raise TooMany("crossings", MOST_CROSSINGS)
        self.lot = tuple(lot)
        self.crossings = tuple([(place, sign) for place, sign in crossings])

    def __len__(self):
        return len(self.crossings)

    def __mul__(self, other):
        need_tangle(other, "other")
        need_one_lot(self.lot, other.lot)
        return Tangle(self.lot, self.crossings + other.crossings)

    def __invert__(self):
        return Tangle(self.lot, [(place, -sign) for place, sign in self.crossings[::-1]])

    def __eq__(self, other):
        return isinstance(other, Tangle) and self.lot == other.lot and self.crossings == other.crossings

    def __str__(self):
        return " ".join(tangle_words(self.lot, self.crossings))

    def mirrored(self):
        """The tangle with the other sign at each crossing."""
        return Tangle(self.lot, [(place, -sign) for place, sign in self.crossings])

    def without(self, cord):
        """The tangle without a cord."""
        need_cord(cord, self.lot)
        if len(self.lot) == 1:
            raise BadTangle("lot")
        order = self.lot
        kept = []
        for place, sign in self.crossings:
            at = order.index(cord)
            if at not in (place, place + 1):
                kept.append((place - 1 if at < place else place, sign))
            order = exchanged(order, place)
        return Tangle([other for other in self.lot if other != cord], kept)

    def beside(self, other):
        """The tangle with the cords of the other one to the right."""
        need_tangle(other, "other")
        if other.lot[0] <= self.lot[-1]:
            raise Misfit("lot")
        shifted = tuple([(place + len(self.lot), sign) for place, sign in other.crossings])
        return Tangle(self.lot + other.lot, self.crossings + shifted)

    @staticmethod
    def read(text):
        """The tangle whose text this is."""
        words = words_of(text)
        lot, start = read_lot(words, 1)
        crossings = []
        for at in range(start, len(words)):
            crossing = signed_of(words[at], len(lot) - 2)
            if crossing is None or len(crossings) == MOST_CROSSINGS:
                raise BadText(0, at)
            crossings.append(crossing)
        if order_after(lot, crossings) != lot:
            raise BadText(0, len(words) - 1)
        return Tangle(lot, crossings)


def tangle_words(lot, crossings):
    """The words of the text of a tangle."""
    return [*told_words(lot, ()), *[signed_word(place, sign) for place, sign in crossings]]


def need_tangle(value, part):
    """Raises BadTangle for what is no Tangle."""
    if not isinstance(value, Tangle):
        raise BadTangle(part)
