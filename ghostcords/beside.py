"""Forms beside one another, and forms that go past one another."""

from ghostcords.below import below
from ghostcords.errors import Misfit
from ghostcords.forms import Form, all_places, need_form
from ghostcords.lots import have_common
from ghostcords.needs import need_lot
from ghostcords.papers import Denial, Paper, fixed


class Past(Paper):
    """A form goes past another one."""

    def __init__(self):
        super().__init__("past")


class Crosswise(Denial):
    """A form does not go past another one: a place, and the numbers there either way."""

    def __init__(self, cord, row, one, other):
        super().__init__("crosswise", cord, row, one, other)
        self.cord = fixed(cord)
        self.row = fixed(row)
        self.one = fixed(one)
        self.other = fixed(other)


def beside(one, other):
    """The Form of two Forms beside one another, all cords of the other one being greater."""
    need_form(one, "one")
    need_form(other, "other")
    if one.lot and other.lot and other.lot[0] <= one.lot[-1]:
        raise Misfit("lot")
    return Form(one.lot + other.lot, one.numbers + other.numbers)


def named(form):
    """The lot of the cords that the numbers of a Form name."""
    need_form(form, "form")
    return tuple([cord for cord in form.lot if any([is_named(cord, place) for place, _ in form.numbers])])


def is_named(cord, place):
    """Whether a cord is named by a place, as the cord or in the row."""
    return cord == place[0] or cord in place[1]


def lots_past(one, other):
    """Whether two lots stand apart."""
    need_lot(one, "one")
    need_lot(other, "other")
    if have_common(one, other):
        return False
    return not have_between(one, other) or not have_between(other, one)


def have_between(one, other):
    """Whether a lot has a cord between two cords of the other one."""
    return any([min(other) < cord < max(other) for cord in one if len(other) > 0])


def go_past(one, other):
    """A Past if two Forms of one lot make one Form below one another either way, otherwise a Crosswise."""
    for place, number, turned in both_ways(one, other):
        if number != turned:
            return Crosswise(place[0], place[1], number, turned)
    return Past()


def both_ways(one, other):
    """The list of each place, in order, with its number with one above and with the other one above."""
    first = dict_of(below(one, other))
    second = dict_of(below(other, one))
    return [(place, first.get(place, 0), second.get(place, 0)) for place in all_places(one.lot)]


def dict_of(form):
    """The dict of the numbers of a form, other than 0, by places."""
    return {place: number for place, number in form.numbers}
