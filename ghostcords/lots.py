"""Lots within lots."""

from ghostcords.checks import row_key


def lots_in(lot, least):
    """The list of all lots of at least so many cords of a lot, in order."""
    lots = [()]
    longest = [()]
    for _ in lot:
        longest = [own + (cord,) for own in longest for cord in lot if own == () or cord > own[-1]]
        lots.extend(longest)
    return [own for own in lots if len(own) >= least]


def lies_in(one, other):
    """Whether all cords of a lot are cords of another one."""
    return all([cord in other for cord in one])


def have_common(one, other):
    """Whether two rows have a common cord."""
    return any([cord in other for cord in one])


def without_cords(lot, cords):
    """The lot without these cords."""
    return tuple([cord for cord in lot if cord not in cords])


def least_ones(lots):
    """The tuple of those of these lots in which no other one of them lies, in order, each once."""
    found = []
    for lot in sorted(lots, key=row_key):
        if not any([lies_in(own, lot) for own in found]):
            found.append(lot)
    return tuple(found)
