"""Which papers about tables of counts are right."""

from ghostcords.checks import is_row_of
from ghostcords.exact import is_exactly
from ghostcords.lots import have_common
from ghostcords.tables import Breaks, Fits, both_sides, fits, table_of


def shows_fits(lot, counts, value):
    """Whether any value is a paper that is right for this table of counts."""
    table = table_of(lot, counts)
    if type(value) is Fits:
        paper = fits(lot, counts)
        return type(paper) is Fits and is_exactly(value.parts, paper.parts)
    return type(value) is Breaks and breaks_rule(lot, table, value)


def breaks_rule(lot, table, paper):
    """Whether the order rule fails at the rows of a Breaks as it tells."""
    rows = (paper.one, paper.other)
    if not all([is_row_of(row, lot) and len(row) > 0 for row in rows]) or have_common(paper.one, paper.other):
        return False
    product, total = both_sides(table, paper.one, paper.other)
    return product != total and is_exactly((paper.product, paper.total), (product, total))
