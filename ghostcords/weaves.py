"""Weaves: forms in blocks below one another, each so many times as an integer t, which nobody tells, makes it."""

from ghostcords.below import below, number_polynomials, times_of
from ghostcords.checks import is_integer, is_list
from ghostcords.errors import BadPattern, TooMany
from ghostcords.forms import Form, all_places, need_place_row
from ghostcords.needs import need_cord, need_number, need_one_lot
from ghostcords.polynomials import through

MOST_FORMS = 6


def is_form_block(value):
    """Whether a value is a triple of a Form and two integers."""
    if not is_list(value) or len(value) != 3:
        return False
    return isinstance(value[0], Form) and is_integer(value[1]) and is_integer(value[2])


class Weave:
    """A weave: its blocks, triples of a Form, u and v, the first one on top, and the lot of the forms."""

    def __init__(self, blocks):
        if not is_list(blocks) or len(blocks) == 0 or not all([is_form_block(block) for block in blocks]):
            raise BadPattern("blocks")
        lot = blocks[0][0].lot
        for form, _, _ in blocks:
            need_one_lot(lot, form.lot)
        if len(blocks) > MOST_FORMS:
            raise TooMany("blocks", MOST_FORMS)
        self.blocks = tuple([(form, u, v) for form, u, v in blocks])
        self.lot = lot
        self._binomials = None

    @property
    def binomials(self):
        """The dict of the Binomials that at each t are the numbers of the form, by places."""
        if self._binomials is None:
            self._binomials = binomials_of(self.lot, self.blocks)
        return self._binomials

    def __len__(self):
        return len(self.blocks)

    def __eq__(self, other):
        return isinstance(other, Weave) and self.blocks == other.blocks

    def __mul__(self, other):
        need_weave(other, "other")
        return Weave(self.blocks + other.blocks)

    def __invert__(self):
        return Weave([(form, -u, -v) for form, u, v in self.blocks[::-1]])

    def put(self, u, v):
        """The weave with u t + v in the place of t."""
        need_number(u, "u")
        need_number(v, "v")
        return Weave([(form, its_u * u, its_u * v + its_v) for form, its_u, its_v in self.blocks])

    def at(self, t):
        """The Form at t."""
        need_number(t, "t")
        return form_at(self.lot, told_blocks(self.blocks), t)


def need_weave(value, part):
    """Raises BadPattern for what is no Weave."""
    if not isinstance(value, Weave):
        raise BadPattern(part)


def told_blocks(blocks):
    """These blocks with the polynomials of its numbers so many times for each form."""
    return [(number_polynomials(form), u, v) for form, u, v in blocks]


def form_at(lot, blocks, t):
    """The Form at t of blocks that have polynomials for their forms."""
    form = Form(lot)
    for polynomials, u, v in blocks:
        form = below(form, times_of(lot, polynomials, u * t + v))
    return form


def binomials_of(lot, blocks):
    """The dict of the Binomials of the numbers of a weave, by places."""
    told = told_blocks(blocks)
    # A row has fewer cords than the lot, and the degree is at most the number of its cords.
    forms = [form_at(lot, told, t) for t in range(len(lot))]
    values = [{place: number for place, number in form.numbers} for form in forms]
    return {place: through([numbers.get(place, 0) for numbers in values]) for place in all_places(lot)}


def number_of(weave, cord, row):
    """The Binomial that at each t is the number of this cord and row in the form of a Weave at t."""
    need_weave(weave, "weave")
    need_cord(cord, weave.lot)
    need_place_row(row, weave.lot, cord)
    return weave.binomials[(cord, tuple(row))]
