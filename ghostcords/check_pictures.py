"""Which papers about pictures are right."""

from ghostcords.exact import is_exactly
from ghostcords.forms import Form
from ghostcords.pictures import seen_places, unseen_places
from ghostcords.whole import Torn, Whole, first_torn, need_pictures, numbers_shown, numbers_together, partings


def shows_whole(lot, pictures, value, many=1):
    """Whether any value is a paper that is right for these Tangles as pictures of the lot."""
    need_pictures(lot, pictures, many)
    shown = numbers_shown(lot, pictures, many)
    if type(value) is Whole:
        return first_torn(lot, shown) is None and is_whole(lot, shown, value, many)
    return type(value) is Torn and is_torn(lot, shown, value)


def is_whole(lot, shown, paper, many):
    """Whether a Whole has the seen numbers of pictures that agree, and tells just the unseen places."""
    if not isinstance(paper.form, Form) or paper.form.lot != tuple(lot):
        return False
    if not is_exactly(paper.unseen, unseen_places(lot, many)):
        return False
    told = numbers_together(shown)
    return all([paper.form.number(cord, row) == told.get((cord, row), 0) for cord, row in seen_places(lot, many)])


def is_torn(lot, shown, paper):
    """Whether a Torn tells two pictures, and one of the places at which they differ, as it is there."""
    told = (paper.one, paper.other, paper.cord, paper.row, paper.number, paper.its)
    for one in shown:
        for other in shown:
            if is_exactly(told[:2], (one, other)):
                found = partings(lot, shown, one, other)
                return any([is_exactly(told, (one, other, *place, number, its)) for place, number, its in found])
    return False
