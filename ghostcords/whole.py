"""Which pictures are of one tangle, and what they tell of it."""

from ghostcords.checks import is_integer, is_list
from ghostcords.errors import BadForm, BadNumber, BadPicture, Impossible
from ghostcords.forms import Form, all_places, form_of, form_with, need_form
from ghostcords.holds import held
from ghostcords.lots import lots_in, without_cords
from ghostcords.needs import need_number, need_two_cords
from ghostcords.papers import Denial, Paper, fixed
from ghostcords.pictures import is_seen, missing_lots, unseen_places
from ghostcords.tangles import Tangle


class Whole(Paper):
    """Pictures are of one tangle: a form with all numbers that they tell, and the places that they do not show."""

    def __init__(self, form, unseen):
        super().__init__("whole", form, unseen)
        self.form = fixed(form)
        self.unseen = fixed(unseen)


class Torn(Denial):
    """Two pictures do not agree: the lots that they lack, a place that both have, and its numbers there."""

    def __init__(self, one, other, cord, row, number, its):
        super().__init__("torn", one, other, cord, row, number, its)
        self.one = fixed(one)
        self.other = fixed(other)
        self.cord = fixed(cord)
        self.row = fixed(row)
        self.number = fixed(number)
        self.its = fixed(its)


def need_pictures(lot, pictures, many):
    """Raises what is told for a lot and a list of its pictures."""
    need_two_cords(lot, "lot")
    if not is_list(pictures) or not all([isinstance(picture, Tangle) for picture in pictures]):
        raise BadPicture("pictures")
    missing = missing_lots(lot, many)
    if len(pictures) != len(missing):
        raise BadPicture("number")
    if any([picture.lot != without_cords(lot, cords) for picture, cords in zip(pictures, missing)]):
        raise BadPicture("lots")


def numbers_shown(lot, pictures, many):
    """The dict of the numbers, other than 0, of the form of each picture, by the lots that they lack."""
    shown = {}
    for picture, cords in zip(pictures, missing_lots(lot, many)):
        shown[cords] = {place: number for place, number in form_of(picture).numbers}
    return shown


def numbers_together(shown):
    """The dict of the numbers, other than 0, that pictures which agree show."""
    return {place: number for numbers in shown.values() for place, number in numbers.items()}


def partings(lot, shown, one, other):
    """The list of the places, with both numbers, at which the pictures that lack these lots differ, in order."""
    both = [(place, shown[one].get(place, 0), shown[other].get(place, 0))
            for place in all_places(without_cords(lot, one + other))]
    return [(place, number, its) for place, number, its in both if number != its]


def first_torn(lot, shown):
    """The Torn of the first two pictures that do not agree, None if all do."""
    missing = list(shown)
    for at, one in enumerate(missing):
        for other in missing[at + 1:]:
            found = partings(lot, shown, one, other)
            if found:
                (cord, row), number, its = found[0]
                return Torn(one, other, cord, row, number, its)
    return None


def whole(lot, pictures, many=1):
    """A Whole if these Tangles are pictures of one tangle of the lot, otherwise a Torn."""
    need_pictures(lot, pictures, many)
    shown = numbers_shown(lot, pictures, many)
    torn = first_torn(lot, shown)
    if torn is not None:
        return torn
    return Whole(form_with(tuple(lot), numbers_together(shown)), unseen_places(lot, many))


def filled(form, numbers, many=1):
    """The Form with these integers at the unseen places, and its own ones at the seen places."""
    need_form(form, "form")
    if len(form.lot) < 2:
        raise BadForm("lot")
    need_number(many, "many", 1, len(form.lot) - 1)
    unseen = unseen_places(form.lot, many)
    if not is_list(numbers) or len(numbers) != len(unseen) or not all([is_integer(number) for number in numbers]):
        raise BadNumber("numbers")
    seen = [(place, number) for place, number in form.numbers if is_seen(place, form.lot, many)]
    return Form(form.lot, seen + list(zip(unseen, numbers)))


def told_of(lot, pictures, many=1):
    """The lots that are held in all tangles with these pictures, and those that are free in all of them."""
    paper = whole(lot, pictures, many)
    if not paper:
        raise Impossible(paper)
    # No unseen number is needed for a lot that is held in all; a lot is free in all if pictures show it so.
    in_all = held(paper.form)
    shown = [own for own in lots_in(lot, 2) if len(own) <= len(lot) - many]
    return in_all, tuple([own for own in shown if own not in in_all])
