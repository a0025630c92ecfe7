"""Which tangles are alike, and which readings are those of a tangle."""

from ghostcords.checks import is_list
from ghostcords.errors import BadLot, BadReading, Misfit
from ghostcords.forms import all_places, form_of, form_with, need_form
from ghostcords.needs import need_lot, need_one_lot
from ghostcords.papers import Denial, Paper, fixed
from ghostcords.readings import Reading, reading_of
from ghostcords.rows import rows_of
from ghostcords.seeing import name_count, others_of, seen_behind
from ghostcords.stacks import tallies_of_form
from ghostcords.tallies import blank_tally, product_tally
from ghostcords.tangles import need_tangle


class Alike(Paper):
    """Two tangles are alike: the form of both."""

    def __init__(self, form):
        super().__init__("alike", form)
        self.form = fixed(form)


class Parted(Denial):
    """Two tangles are not alike: a cord, and a row that its readings count otherwise."""

    def __init__(self, cord, row, one, other):
        super().__init__("parted", cord, row, one, other)
        self.cord = fixed(cord)
        self.row = fixed(row)
        self.one = fixed(one)
        self.other = fixed(other)


class Real(Paper):
    """Readings are those of a tangle: its form."""

    def __init__(self, form):
        super().__init__("real", form)
        self.form = fixed(form)


class Unreal(Denial):
    """Readings are those of no tangle: a row, its count in the product, and in the bare one."""

    def __init__(self, row, one, other):
        super().__init__("unreal", row, one, other)
        self.row = fixed(row)
        self.one = fixed(one)
        self.other = fixed(other)


def both_seen(one, other):
    """What the cords see in two Tangles of one lot, each a dict; raises what `alike` raises."""
    need_tangle(one, "one")
    need_tangle(other, "other")
    need_one_lot(one.lot, other.lot)
    _, seen = seen_behind(one, len(one))
    _, seen_in_other = seen_behind(other, len(other))
    return seen, seen_in_other


def alike(one, other):
    """An Alike if two Tangles of one lot are alike, otherwise a Parted."""
    seen, seen_in_other = both_seen(one, other)
    for cord in one.lot:
        for row in rows_of(others_of(one.lot, cord)):
            if seen[cord][row] != seen_in_other[cord][row]:
                return Parted(cord, row, seen[cord][row], seen_in_other[cord][row])
    return Alike(form_of(one))


def all_readings(form):
    """The tuple of the readings of all cords, over the others, in each tangle with this Form."""
    need_form(form, "form")
    tallies = tallies_of_form(form, form.lot)
    return tuple([reading_of(others_of(form.lot, cord), tallies[cord]) for cord in form.lot])


def need_readings(lot, readings):
    """Raises what is told for a lot with a cord and a list of one Reading of each cord."""
    need_lot(lot, "lot")
    if len(lot) == 0:
        raise BadLot("lot")
    if not is_list(readings) or len(readings) != len(lot):
        raise BadReading("readings")
    if not all([isinstance(reading, Reading) for reading in readings]):
        raise BadReading("readings")
    if any([readings[at].lot != others_of(lot, cord) for at, cord in enumerate(lot)]):
        raise Misfit("lot")


def product_of_names(lot, readings):
    """The tally of the product of these readings, one of each cord of the lot."""
    product = blank_tally(lot)
    for at in range(len(lot) - 1, -1, -1):
        product = product_tally(product, name_tally(lot, lot[at], readings[at].tally))
    return product


def name_tally(lot, cord, seen):
    """The tally over a lot of the name of a cord that has seen this tally."""
    tally = {(): 1}
    for row in rows_of(lot):
        tally[row] = name_count(seen, cord, row)
    return tally


def bare_count(row):
    """The count of a row in the bare product."""
    return 1 if list(row) == sorted(row, reverse=True) else 0


def real(lot, readings):
    """A Real if these readings, one of each cord of the lot, are those of a tangle, otherwise an Unreal."""
    need_readings(lot, readings)
    product = product_of_names(lot, readings)
    for row in rows_of(lot):
        if product[row] != bare_count(row):
            return Unreal(row, product[row], bare_count(row))
    seen = {cord: readings[at].tally for at, cord in enumerate(lot)}
    return Real(form_with(tuple(lot), {(cord, row): seen[cord][row] for cord, row in all_places(lot)}))
