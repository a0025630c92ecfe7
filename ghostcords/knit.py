"""Knit tangles: one of each form, made by winding one cord after the other."""

from ghostcords.errors import BadForm, BadWord, TooMany
from ghostcords.forms import lesser_of, need_form
from ghostcords.needs import need_cord, need_lot
from ghostcords.tangles import MOST_CROSSINGS, Tangle
from ghostcords.windings import exponents, winding, word_for
from ghostcords.words import need_word


def letter_crossings(place, letter_place, sign):
    """The crossings by which a cord at a place winds by one letter of the cord at another place."""
    there = [(between, -1) for between in range(place - 1, letter_place, -1)]
    back = [(between, 1) for between in range(letter_place + 1, place)]
    return there + [(letter_place, sign), (letter_place, sign)] + back


def wound_crossings(lot, cord, letters):
    """The list of the crossings by which a cord winds by these letters."""
    place = lot.index(cord)
    crossings = []
    for other, sign in letters:
        crossings.extend(letter_crossings(place, lot.index(other), sign))
    return crossings


def many_crossings(lot, cord, cords):
    """How many crossings a cord takes to wind by letters of these cords."""
    place = lot.index(cord)
    return sum([2 * (place - lot.index(other)) for other in cords])


def wind(lot, cord, word):
    """The Tangle of the lot in which this cord winds by a Word, the others hanging straight."""
    need_lot(lot, "lot")
    need_cord(cord, lot)
    need_word(word, "word")
    if any([other not in lesser_of(lot, cord) for other in word.cords]):
        raise BadWord("word")
    return Tangle(lot, wound_crossings(lot, cord, word.letters))


def knit(form):
    """The knit Tangle of a Form."""
    need_form(form, "form")
    if len(form.lot) == 0:
        raise BadForm("form")
    if crossings_of(form) > MOST_CROSSINGS:
        raise TooMany("crossings", MOST_CROSSINGS)
    crossings = []
    for cord in form.lot[::-1]:
        crossings.extend(wound_crossings(form.lot, cord, word_for(form.reading(cord)).letters))
    return Tangle(form.lot, crossings)


def crossings_of(form):
    """How many crossings the knit tangle of a Form has, or would have."""
    need_form(form, "form")
    total = 0
    for cord in form.lot:
        for row, times in exponents(form.reading(cord)):
            cords = [letter[0] for letter in winding(row).letters]
            total += abs(times) * many_crossings(form.lot, cord, cords)
    return total
