"""Forms: the numbers that tell tangles up to alike ones."""

from ghostcords.checks import first_twice, is_integer, is_leading, is_list, is_lot, is_pair, is_row_of
from ghostcords.errors import BadForm, BadRow, Twice
from ghostcords.needs import need_cord, need_lot
from ghostcords.readings import reading_of
from ghostcords.rows import leads_of
from ghostcords.seeing import seen_behind
from ghostcords.tangles import need_tangle
from ghostcords.texts import read_lot, read_numbers, told_words, words_of


def lesser_of(lot, cord):
    """The lot of the cords of a lot that are less than a cord."""
    return tuple([other for other in lot if other < cord])


def all_places(lot):
    """The list of all places (cord, row) of a lot, in order."""
    return [(cord, row) for cord in lot for row in leads_of(lesser_of(lot, cord))]


def is_place(place, known):
    """Whether a value is a pair that tells one of the places that are known."""
    if not is_pair(place) or not is_integer(place[0]) or not is_list(place[1]):
        return False
    # What equals an integer need not be one, so the place is looked for only when it is made of them.
    return all([is_integer(cord) for cord in place[1]]) and (place[0], tuple(place[1])) in known


def are_numbers(value, places):
    """Whether a value is a list of pairs of one of these places and an integer."""
    known = {place: True for place in places}
    if not is_list(value) or not all([is_pair(pair) for pair in value]):
        return False
    return all([is_place(place, known) and is_integer(number) for place, number in value])


class Form:
    """A form: its lot, and the numbers, other than 0, at its places."""

    def __init__(self, lot, numbers=()):
        if not is_lot(lot):
            raise BadForm("lot")
        places = all_places(lot)
        if not are_numbers(numbers, places):
            raise BadForm("numbers")
        told = {(cord, tuple(row)): number for (cord, row), number in numbers}
        if len(told) < len(numbers):
            raise Twice(first_twice([pair[0] for pair in numbers]))
        self.lot = tuple(lot)
        self.numbers = tuple([(place, told[place]) for place in places if told.get(place, 0) != 0])

    def __eq__(self, other):
        return isinstance(other, Form) and self.lot == other.lot and self.numbers == other.numbers

    def __str__(self):
        return " ".join(told_words(self.lot, [((cord, *row), number) for (cord, row), number in self.numbers]))

    def number(self, cord, row):
        """The number at a place."""
        need_cord(cord, self.lot)
        need_place_row(row, self.lot, cord)
        told = {place: number for place, number in self.numbers}
        return told.get((cord, tuple(row)), 0)

    def reading(self, cord):
        """The reading over the lesser cords with the numbers of a cord."""
        need_cord(cord, self.lot)
        return reading_of(lesser_of(self.lot, cord), numbers_of(self, cord))

    @staticmethod
    def read(text):
        """The form whose text this is."""
        words = words_of(text)
        lot, start = read_lot(words, 0)
        keys = [(cord, *row) for cord, row in all_places(lot)]
        return Form(lot, [((key[0], key[1:]), number) for key, number in read_numbers(words, start, keys)])


def form_with(lot, told):
    """The form over a lot, a tuple, with these numbers, a dict by places of the lot; others are 0."""
    form = Form(())
    form.lot = lot
    form.numbers = tuple([(place, told[place]) for place in all_places(lot) if told.get(place, 0) != 0])
    return form


def numbers_of(form, cord):
    """The dict of the numbers, other than 0, of a cord, by rows."""
    return {row: number for (other, row), number in form.numbers if other == cord}


def places_of(lot):
    """The tuple of all places of a lot, in order."""
    need_lot(lot, "lot")
    return tuple(all_places(lot))


def form_of(tangle):
    """The Form of a Tangle."""
    need_tangle(tangle, "tangle")
    _, seen = seen_behind(tangle, len(tangle))
    return form_with(tangle.lot, {(cord, row): seen[cord][row] for cord, row in all_places(tangle.lot)})


def need_place_row(row, lot, cord):
    """Raises BadRow for what makes no place of a lot with this cord."""
    if not is_leading(row) or not is_row_of(row, lesser_of(lot, cord)):
        raise BadRow("row")


def need_form(value, part):
    """Raises BadForm for what is no Form."""
    if not isinstance(value, Form):
        raise BadForm(part)
