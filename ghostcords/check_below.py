"""Which papers about forms below one another are right."""

from ghostcords.below import NoRoot, Root, need_root, repeated, root_of, row_length
from ghostcords.beside import Crosswise, Past, both_ways
from ghostcords.exact import is_exactly, is_form
from ghostcords.forms import Form, all_places, is_place


def shows_past(one, other, value):
    """Whether any value is a paper that is right for whether a Form goes past another one."""
    ways = both_ways(one, other)
    if type(value) is Past:
        return all([number == turned for _, number, turned in ways])
    return type(value) is Crosswise and any([crosses(value, way) for way in ways])


def crosses(paper, way):
    """Whether a Crosswise tells just this place and these numbers, which differ."""
    (cord, row), number, turned = way
    return number != turned and is_exactly((paper.cord, paper.row, paper.one, paper.other), (cord, row, number, turned))


def shows_root(form, many, value):
    """Whether any value is a paper that is right for whether a Form has a root."""
    need_root(form, many)
    if type(value) is Root:
        paper = root_of(form, many)
        return type(paper) is Root and is_form(value.root, paper.root)
    return type(value) is NoRoot and stops_root(form, many, value)


def stops_root(form, many, paper):
    """Whether there is no going on from the rest of a NoRoot at its place."""
    place, rest = (paper.cord, paper.row), paper.rest
    places = all_places(form.lot)
    if not is_place(place, {own: True for own in places}) or not isinstance(rest, Form) or rest.lot != form.lot:
        return False
    if any([row_length(own) >= row_length(place) for own, _ in rest.numbers]):
        return False
    found = repeated(rest, many)
    shorter = [own for own in places if row_length(own) < row_length(place)]
    if any([form.number(cord, row) != found.number(cord, row) for cord, row in shorter]):
        return False
    return (form.number(place[0], place[1]) - found.number(place[0], place[1])) % many != 0
