"""Tables of counts, and the order rule that those of words keep."""

from ghostcords.checks import first_twice, is_integer, is_list, is_pair, is_row_of
from ghostcords.errors import BadReading, Twice
from ghostcords.lots import have_common
from ghostcords.needs import need_lot
from ghostcords.papers import Denial, Paper, fixed
from ghostcords.rows import leads_of, rows_of, weavings


class Fits(Paper):
    """A table fits: its integers, other than 0, at the rows that lead."""

    def __init__(self, leads):
        super().__init__("fits", leads)
        self.leads = fixed(leads)


class Breaks(Denial):
    """A table does not fit: two rows at which the order rule fails, and both sides of it."""

    def __init__(self, one, other, product, total):
        super().__init__("breaks", one, other, product, total)
        self.one = fixed(one)
        self.other = fixed(other)
        self.product = fixed(product)
        self.total = fixed(total)


def is_entry(value, lot):
    """Whether a value is a pair of a row of the lot, with a cord, and an integer."""
    return is_pair(value) and is_row_of(value[0], lot) and len(value[0]) > 0 and is_integer(value[1])


def table_of(lot, counts):
    """The dict of a table of counts of the lot, told by pairs; raises what `fits` raises."""
    need_lot(lot, "lot")
    if not is_list(counts) or not all([is_entry(pair, lot) for pair in counts]):
        raise BadReading("counts")
    row_twice = first_twice([pair[0] for pair in counts])
    if row_twice is not None:
        raise Twice(row_twice)
    if len(counts) < len(rows_of(lot)):
        raise BadReading("counts")
    return {tuple(row): count for row, count in counts}


def both_sides(table, one, other):
    """The product of the integers at two rows, and the total of those at their weavings."""
    return table[one] * table[other], sum([table[row] for row in weavings(one, other)])


def fits(lot, counts):
    """A Fits if this table of counts of the lot keeps the order rule, otherwise a Breaks."""
    table = table_of(lot, counts)
    rows = rows_of(lot)
    for at, one in enumerate(rows):
        for other in rows[at + 1:]:
            if not have_common(one, other):
                product, total = both_sides(table, one, other)
                if product != total:
                    return Breaks(one, other, product, total)
    return Fits([(row, table[row]) for row in leads_of(lot) if table[row] != 0])
