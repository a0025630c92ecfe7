"""Which lots of cords a form holds."""

from ghostcords.beside import named
from ghostcords.forms import need_form
from ghostcords.lots import least_ones, lies_in, lots_in, without_cords
from ghostcords.needs import need_cords, need_two_cords


def is_held(form, lot):
    """Whether a Form holds a lot of two or more cords."""
    need_form(form, "form")
    need_two_cords(lot, "lot")
    need_cords(lot, form.lot)
    return any([lies_in(own, lot) for own in least_held(form)])


def held(form):
    """The tuple of all held lots of a Form, in order."""
    least = least_held(form)
    return tuple([lot for lot in lots_in(form.lot, 2) if any([lies_in(own, lot) for own in least])])


def least_held(form):
    """The tuple of all least held lots of a Form, in order."""
    need_form(form, "form")
    return least_ones([tuple(sorted((cord, *row))) for (cord, row), _ in form.numbers])


def loose(form):
    """The lot of the cords that no number of a Form names."""
    cords = named(form)
    return without_cords(form.lot, cords)


def spare(form):
    """The lot of the cords of a Form that are in no least held lot."""
    least = least_held(form)
    return tuple([cord for cord in form.lot if not any([cord in own for own in least])])
