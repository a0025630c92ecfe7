"""Forms below one another: undoings, forms so many times, roots; cords left out and put in."""

from ghostcords.errors import BadNumber, Misfit
from ghostcords.forms import Form, all_places, form_with, lesser_of, need_form, numbers_of
from ghostcords.needs import need_cord, need_lot, need_number, need_one_lot
from ghostcords.overs import differences, value_at, value_at_share
from ghostcords.papers import Denial, Paper, fixed
from ghostcords.rows import key_rows, leads_of
from ghostcords.stacks import form_tally, letter_ways, replaced_count, tallies_of_form
from ghostcords.tallies import all_leads, cut_sum


class Root(Paper):
    """A form has this root."""

    def __init__(self, root):
        super().__init__("root", root)
        self.root = fixed(root)


class NoRoot(Denial):
    """A form has no root: what was found of it, and a place at which a number is no multiple."""

    def __init__(self, rest, cord, row):
        super().__init__("noroot", rest, cord, row)
        self.rest = fixed(rest)
        self.cord = fixed(cord)
        self.row = fixed(row)


def below(one, other):
    """The Form that two Forms of one lot make, one above the other."""
    need_form(one, "one")
    need_form(other, "other")
    need_one_lot(one.lot, other.lot)
    return form_below(one, ways_behind(one), other)


def ways_behind(form):
    """How key rows come of letters that are replaced by the names of the cords but the greatest behind a Form.

    For a lesser cord they come of its own lesser ones likewise: what the others do is struck there.
    """
    lesser = form.lot[:-1]
    return letter_ways(tallies_of_form(form, lesser), lesser, key_rows(lesser))


def form_below(one, ways, other):
    """The Form that two Forms make, from the ways of key rows behind one."""
    told = {}
    for cord in one.lot:
        upper = numbers_of(one, cord)
        lower = numbers_of(other, cord)
        row_numbers = numbers_below(lesser_of(one.lot, cord), upper, ways, form_tally(other, cord)) if lower else upper
        for row, number in row_numbers.items():
            told[(cord, row)] = number
    return form_with(one.lot, told)


def numbers_below(lesser, upper, ways, tally):
    """The numbers of a cord, by rows that lead of the lesser cords, by the rule of names."""
    counts = all_leads(lesser, upper)
    replaced = {row: replaced_count(tally, ways[row]) for row in key_rows(lesser)}
    return {row: cut_sum(counts, replaced, row) for row in leads_of(lesser)}


def undoing(form):
    """The Form that makes a straight one below this one."""
    need_form(form, "form")
    return times_form(form, -1)


def repeated(form, many):
    """The Form so many times, any integer."""
    need_form(form, "form")
    need_number(many, "many")
    return times_form(form, many)


def times_form(form, many):
    """The Form so many times, from the polynomials of its numbers."""
    return times_of(form.lot, number_polynomials(form), many)


def times_of(lot, polynomials, many):
    """The Form so many times that has these polynomials of its numbers, a dict by places."""
    return form_with(lot, {place: value_at(numbers, many) for place, numbers in polynomials.items()})


def number_polynomials(form):
    """For each place of a Form the polynomial that is its number there so many times.

    Its values from 0 times to as many times as the row has cords tell it.
    """
    powers = powers_of(form)
    told = {}
    for place in all_places(form.lot):
        told[place] = differences([numbers.get(place, 0) for numbers in powers[:len(place[1]) + 1]])
    return told


def powers_of(form):
    """The dicts of the numbers of a Form 0, 1, .. times, up to as many times as a row can have cords."""
    ways = ways_behind(form)
    powers = [Form(form.lot)]
    while len(powers) < len(form.lot):
        powers.append(form_below(form, ways, powers[-1]))
    return [{place: number for place, number in power.numbers} for power in powers]


def need_root(form, many):
    """Raises what is told for a root of a form for an integer other than 0."""
    need_form(form, "form")
    need_number(many, "many")
    if many == 0:
        raise BadNumber("many")


def root_of(form, many):
    """A Root with the form that so many times, not 0, is this one; a NoRoot if there is none."""
    need_root(form, many)
    # A root is this form 1 over many times: at a place what is left, divided by many, is the polynomial there.
    told = number_polynomials(form)
    found = {}
    for place in sorted(told, key=row_length):
        number = value_at_share(told[place], many)
        if number is None:
            shorter = {other: found[other] for other in found if row_length(other) < row_length(place)}
            return NoRoot(form_with(form.lot, shorter), place[0], place[1])
        found[place] = number
    return Root(form_with(form.lot, found))


def row_length(place):
    """How many cords the row of a place has."""
    return len(place[1])


def left_out(form, cord):
    """The Form without a cord."""
    need_form(form, "form")
    need_cord(cord, form.lot)
    kept = [(place, number) for place, number in form.numbers if cord != place[0] and cord not in place[1]]
    return Form([other for other in form.lot if other != cord], kept)


def widened(form, lot):
    """The Form of a greater lot with the same numbers."""
    need_form(form, "form")
    need_lot(lot, "lot")
    if any([cord not in lot for cord in form.lot]):
        raise Misfit("lot")
    return Form(lot, form.numbers)


def full_round(lot):
    """The Form in which each cord goes round all lesser ones at once."""
    need_lot(lot, "lot")
    return Form(lot, [(place, 1) for place in all_places(lot) if len(place[1]) == 1])
