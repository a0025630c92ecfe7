"""What raises the error that is told for a value that is not what it must be."""

from ghostcords.checks import is_cord, is_lot, is_row, is_sign, is_within
from ghostcords.errors import BadLot, BadNumber, BadRow, Misfit, NoCord


def need_number(value, part, least=None, most=None):
    """Raises BadNumber for what is no integer from least to most."""
    if not is_within(value, least, most):
        raise BadNumber(part)


def need_sign(value, part):
    """Raises BadNumber for what is no sign."""
    if not is_sign(value):
        raise BadNumber(part)


def need_row(value, part):
    """Raises BadRow for what is no row."""
    if not is_row(value):
        raise BadRow(part)


def need_lot(value, part):
    """Raises BadLot for what is no lot."""
    if not is_lot(value):
        raise BadLot(part)


def need_cord(value, lot):
    """Raises NoCord for what is no cord of the lot."""
    if not (is_cord(value) and value in lot):
        raise NoCord(value)


def need_one_lot(one, other):
    """Raises Misfit for two lots that are unlike."""
    if one != other:
        raise Misfit("lot")


def need_cords(cords, lot):
    """Raises NoCord for the first of these cords that the lot lacks."""
    for cord in cords:
        need_cord(cord, lot)


def need_two_cords(value, part):
    """Raises BadLot for what is no lot of two or more cords."""
    if not is_lot(value) or len(value) < 2:
        raise BadLot(part)
