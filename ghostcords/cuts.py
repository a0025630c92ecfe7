"""Cuts: the cords without which nothing is held."""

from ghostcords.checks import is_list, is_within
from ghostcords.errors import BadNumber
from ghostcords.families import need_family
from ghostcords.lots import have_common, least_ones, lots_in
from ghostcords.needs import need_cords, need_lot
from ghostcords.papers import Paper, fixed


class Cut(Paper):
    """A cut of as few cords as can be; for each lot of one cord fewer a held lot with none of its cords."""

    def __init__(self, cords, held):
        super().__init__("cut", cords, held)
        self.cords = fixed(cords)
        self.held = fixed(held)


class Cheapest(Paper):
    """A cut, its price, which is the least; for each lot of a lesser price a held lot with none of its cords."""

    def __init__(self, cords, price, held):
        super().__init__("cheapest", cords, price, held)
        self.cords = fixed(cords)
        self.price = fixed(price)
        self.held = fixed(held)


def is_cut(family, cords):
    """Whether a lot of a Family's cords is a cut of it."""
    need_family(family, "family")
    need_lot(cords, "cords")
    need_cords(cords, family.lot)
    return cuts_all(family, cords)


def cuts_all(family, cords):
    """Whether each held lot has one of these cords."""
    return all([have_common(own, cords) for own in family.least])


def least_cuts(family):
    """The tuple of all least cuts of a Family, in order."""
    need_family(family, "family")
    return least_ones([cords for cords in lots_in(family.lot, 0) if cuts_all(family, cords)])


def fewest_cut(family):
    """The Cut of the first one of the cuts of the fewest cords."""
    need_family(family, "family")
    cords = least_cuts(family)[0]
    return Cut(cords, [first_left(family, fewer) for fewer in lots_one_fewer(family.lot, cords)])


def lots_one_fewer(lot, cords):
    """The list of all lots of one cord fewer than these cords, in order."""
    return [fewer for fewer in lots_in(lot, 0) if len(fewer) == len(cords) - 1]


def first_left(family, cords):
    """The first held lot with none of these cords, which are no cut."""
    # A shorter lot comes first, so it is a least held one.
    return [own for own in family.least if not have_common(own, cords)][0]


def need_prices(family, prices):
    """Raises what is told for a Family and a list of the prices of its cords."""
    need_family(family, "family")
    if not is_list(prices) or len(prices) != len(family.lot):
        raise BadNumber("prices")
    if not all([is_within(price, 1, None) for price in prices]):
        raise BadNumber("prices")


def price_of(family, prices, cords):
    """The price of these cords."""
    return sum([price for cord, price in zip(family.lot, prices) if cord in cords])


def cheapest_cut(family, prices):
    """The Cheapest of the first cut of the least price."""
    need_prices(family, prices)
    cuts = least_cuts(family)
    price = min([price_of(family, prices, cords) for cords in cuts])
    cheapest = [cords for cords in cuts if price_of(family, prices, cords) == price][0]
    return Cheapest(cheapest, price, [first_left(family, cords) for cords in lots_below(family, prices, price)])


def lots_below(family, prices, price):
    """The list of all lots of the cords of a Family with a price below this one, in order."""
    return [cords for cords in lots_in(family.lot, 0) if price_of(family, prices, cords) < price]
