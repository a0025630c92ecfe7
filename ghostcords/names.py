"""The names of the cords of a tangle, and their readings."""

from ghostcords.needs import need_cord, need_number
from ghostcords.readings import Reading, reading_of
from ghostcords.rows import leads_of
from ghostcords.seeing import name_count, others_of, seen_behind
from ghostcords.tangles import need_tangle, order_after


def order_behind(tangle, many):
    """The tuple of the cords, by places, behind the first so many crossings."""
    need_tangle(tangle, "tangle")
    need_number(many, "many", 0, len(tangle))
    return order_after(tangle.lot, tangle.crossings[:many])


def names_behind(tangle, many):
    """The tuple of the names of the cords, by places, behind the first so many crossings."""
    need_tangle(tangle, "tangle")
    need_number(many, "many", 0, len(tangle))
    order, seen = seen_behind(tangle, many)
    return tuple([name_reading(tangle.lot, cord, seen[cord]) for cord in order])


def name(tangle, cord):
    """The name of a cord behind all crossings."""
    need_tangle(tangle, "tangle")
    need_cord(cord, tangle.lot)
    _, seen = seen_behind(tangle, len(tangle))
    return name_reading(tangle.lot, cord, seen[cord])


def reading(tangle, cord):
    """The reading of a cord over the other cords."""
    need_tangle(tangle, "tangle")
    need_cord(cord, tangle.lot)
    _, seen = seen_behind(tangle, len(tangle))
    return reading_of(others_of(tangle.lot, cord), seen[cord])


def readings(tangle):
    """The tuple of the readings of all cords, in the order of the lot."""
    need_tangle(tangle, "tangle")
    _, seen = seen_behind(tangle, len(tangle))
    return tuple([reading_of(others_of(tangle.lot, cord), seen[cord]) for cord in tangle.lot])


def name_reading(lot, cord, seen):
    """The name over the whole lot of a cord that has seen this tally."""
    return Reading(lot, [(row, name_count(seen, cord, row)) for row in leads_of(lot)])
