"""Which papers about tangles and their forms are right."""

from ghostcords.checks import is_cord, is_row, is_row_of
from ghostcords.errors import BadForm
from ghostcords.exact import is_exactly, is_form
from ghostcords.forms import form_of, need_form
from ghostcords.real import Alike, Parted, Real, Unreal, bare_count, both_seen, need_readings, product_of_names, real
from ghostcords.tangles import Tangle


def shows_alike(one, other, value):
    """Whether any value is a paper that is right for two Tangles of one lot."""
    seen, seen_in_other = both_seen(one, other)
    if type(value) is Alike:
        return is_form(value.form, form_of(one)) and is_form(value.form, form_of(other))
    return type(value) is Parted and parts_cords(seen, seen_in_other, value)


def parts_cords(seen, seen_in_other, paper):
    """Whether what the cord of a Parted sees in two tangles differs at its row as it tells."""
    if not is_cord(paper.cord) or paper.cord not in seen:
        return False
    if not is_row(paper.row) or paper.row not in seen[paper.cord]:
        return False
    counts = (seen[paper.cord][paper.row], seen_in_other[paper.cord][paper.row])
    return counts[0] != counts[1] and is_exactly((paper.one, paper.other), counts)


def shows_knit(form, value):
    """Whether any value is a Tangle with this Form."""
    need_form(form, "form")
    if len(form.lot) == 0:
        raise BadForm("form")
    return isinstance(value, Tangle) and form_of(value) == form


def shows_real(lot, readings, value):
    """Whether any value is a paper that is right for these readings, one of each cord of the lot."""
    need_readings(lot, readings)
    if type(value) is Real:
        paper = real(lot, readings)
        return type(paper) is Real and is_form(value.form, paper.form)
    return type(value) is Unreal and breaks_product(lot, readings, value)


def breaks_product(lot, readings, paper):
    """Whether the product of these readings and the bare one differ at the row of an Unreal as it tells."""
    if not is_row_of(paper.row, lot):
        return False
    counts = (product_of_names(lot, readings)[paper.row], bare_count(paper.row))
    return counts[0] != counts[1] and is_exactly((paper.one, paper.other), counts)
