"""Forms: the numbers that tell tangles up to alike ones."""

from ghostcords.checks import first_twice, is_cord, is_integer, is_leading, is_list, is_lot, is_pair, is_row_of
from ghostcords.errors import BadForm, BadRow, Twice
from ghostcords.needs import need_cord, need_lot
from ghostcords.readings import Reading
from ghostcords.rows import leads_of
from ghostcords.seeing import seen_behind
from ghostcords.tangles import need_tangle
from ghostcords.texts import read_lot, read_numbers, told_words, words_of


def lesser_of(lot, cord):
    """The lot of the cords of a lot that are less than a cord."""
    return tuple([other for other in lot if other < cord])


def all_places(lot):
    """The list of all places (cord, row) of a lot, in order."""
    return [(cord, row) for cord in lot for row in leads_of(lesser_of(lot, cord))]


def is_place(cord, row, lot):
    """Whether any two values are the cord and the row of a place of a lot."""
    if not is_cord(cord) or cord not in lot:
        return False
    return is_leading(row) and is_row_of(row, lesser_of(lot, cord))


def is_number(value, lot):
    """Whether a value is a pair of a place of a lot and an integer."""
    if not is_pair(value) or not is_pair(value[0]) or not is_integer(value[1]):
        return False
    return is_place(value[0][0], value[0][1], lot)


class Form:
    """A form: its lot, and the numbers, other than 0, at its places."""

    def __init__(self, lot, numbers=()):
        if not is_lot(lot):
            raise BadForm("lot")
        if not is_list(numbers) or not all([is_number(pair, lot) for pair in numbers]):
            raise BadForm("numbers")
        place_twice = first_twice([pair[0] for pair in numbers])
        if place_twice is not None:
            raise Twice(place_twice)
        told = {(cord, tuple(row)): number for (cord, row), number in numbers if number != 0}
        self.lot = tuple(lot)
        self.numbers = tuple([(place, told[place]) for place in all_places(lot) if place in told])

    def __eq__(self, other):
        return isinstance(other, Form) and self.lot == other.lot and self.numbers == other.numbers

    def __str__(self):
        return " ".join(told_words(self.lot, [((cord, *row), number) for (cord, row), number in self.numbers]))

    def number(self, cord, row):
        """The number at a place."""
        need_cord(cord, self.lot)
        if not is_place(cord, row, self.lot):
            raise BadRow("row")
        told = {place: number for place, number in self.numbers}
        return told.get((cord, tuple(row)), 0)

    def reading(self, cord):
        """The reading over the lesser cords with the numbers of a cord."""
        need_cord(cord, self.lot)
        leads = [(row, number) for (other, row), number in self.numbers if other == cord]
        return Reading(lesser_of(self.lot, cord), leads)

    @staticmethod
    def read(text):
        """The form whose text this is."""
        words = words_of(text)
        lot, start = read_lot(words, 0)
        keys = [(cord, *row) for cord, row in all_places(lot)]
        return Form(lot, [((key[0], key[1:]), number) for key, number in read_numbers(words, start, keys)])


def places_of(lot):
    """The tuple of all places of a lot, in order."""
    need_lot(lot, "lot")
    return tuple(all_places(lot))


def form_of(tangle):
    """The Form of a Tangle."""
    need_tangle(tangle, "tangle")
    _, seen = seen_behind(tangle, len(tangle))
    return Form(tangle.lot, [((cord, row), seen[cord][row]) for cord, row in all_places(tangle.lot)])


def need_form(value, part):
    """Raises BadForm for what is no Form."""
    if not isinstance(value, Form):
        raise BadForm(part)
