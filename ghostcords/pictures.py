"""Pictures: tangles with some of their cords left out, and the places that they show."""

from ghostcords.forms import all_places
from ghostcords.lots import lots_in
from ghostcords.needs import need_number, need_two_cords
from ghostcords.tangles import need_tangle


def pictures(tangle, many=1):
    """The tuple of a Tangle without the cords of each lot of so many of its cords, in order."""
    need_tangle(tangle, "tangle")
    need_number(many, "many", 1, len(tangle.lot) - 1)
    return tuple([without_all(tangle, cords) for cords in lots_of_many(tangle.lot, many)])


def without_all(tangle, cords):
    """The Tangle without these cords, one left out after the other."""
    rest = tangle
    for cord in cords:
        rest = rest.without(cord)
    return rest


def lots_of_many(lot, many):
    """The list of the lots of just so many cords of a lot, in order."""
    return [own for own in lots_in(lot, many) if len(own) == many]


def need_missing(lot, many):
    """Raises what is told for a lot of two cords or more, and how many of them are left out."""
    need_two_cords(lot, "lot")
    need_number(many, "many", 1, len(lot) - 1)


def missing_lots(lot, many):
    """The tuple of the lots of so many cords of a lot, in order."""
    need_missing(lot, many)
    return tuple(lots_of_many(lot, many))


def seen_places(lot, many):
    """The tuple of the places of a lot that some picture has, in order."""
    need_missing(lot, many)
    return tuple([place for place in all_places(lot) if is_seen(place, lot, many)])


def unseen_places(lot, many):
    """The tuple of the places of a lot that no picture has, in order."""
    need_missing(lot, many)
    return tuple([place for place in all_places(lot) if not is_seen(place, lot, many)])


def is_seen(place, lot, many):
    """Whether a place of a lot names no more cords than pictures without so many cords have."""
    return 1 + len(place[1]) <= len(lot) - many
