"""Which papers about the cuts of a family are right."""

from ghostcords.checks import is_lot
from ghostcords.cuts import Cheapest, Cut, cheapest_cut, cuts_all, fewest_cut, lots_below, lots_one_fewer, price_of
from ghostcords.exact import is_exactly
from ghostcords.families import is_held_by
from ghostcords.lots import have_common, lies_in


def shows_cut(family, value):
    """Whether any value is a Cut of as few cords as can be of a Family."""
    fewest = fewest_cut(family).cords
    if type(value) is not Cut or not cuts_family(family, value.cords) or len(value.cords) != len(fewest):
        return False
    return are_left(family, lots_one_fewer(family.lot, fewest), value.held)


def shows_cheapest(family, prices, value):
    """Whether any value is a Cheapest of the least price of a Family."""
    price = cheapest_cut(family, prices).price
    if type(value) is not Cheapest or not cuts_family(family, value.cords):
        return False
    if not is_exactly(value.price, price) or price_of(family, prices, value.cords) != price:
        return False
    return are_left(family, lots_below(family, prices, price), value.held)


def cuts_family(family, cords):
    """Whether any value is a lot of a Family's cords that is a cut."""
    return is_lot(cords) and lies_in(cords, family.lot) and cuts_all(family, cords)


def are_left(family, lots, held):
    """Whether any value is a tuple that has for each of these lots a held lot with none of its cords."""
    if not isinstance(held, tuple) or len(held) != len(lots):
        return False
    return all([is_left(family, lot, held[at]) for at, lot in enumerate(lots)])


def is_left(family, cords, lot):
    """Whether any value is a held lot of a Family with none of these cords."""
    if not is_lot(lot) or not lies_in(lot, family.lot):
        return False
    return is_held_by(family.least, lot) and not have_common(lot, cords)
