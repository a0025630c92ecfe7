"""Slides: changes of two or three crossings of a tangle that leave all names."""

from ghostcords.checks import is_integer
from ghostcords.errors import BadNumber
from ghostcords.needs import need_number, need_sign
from ghostcords.tangles import Tangle, need_tangle


def slide_at(crossings, at):
    """The word of the slide that can be done with the crossings from number at on, None if there is none."""
    if at + 1 >= len(crossings):
        return None
    place, sign = crossings[at]
    next_place, next_sign = crossings[at + 1]
    if abs(place - next_place) >= 2:
        return "far"
    if place == next_place:
        return "undo" if sign != next_sign else None
    return "three" if is_three(crossings[at:at + 3]) else None


def is_three(crossings):
    """Whether crossings, whose first two are at neighbouring places, can be slid as three."""
    if len(crossings) < 3 or crossings[2][0] != crossings[0][0]:
        return False
    first, second, third = [crossing[1] for crossing in crossings]
    return not first == third != second


def slides(tangle):
    """The tuple of all pairs (word, at) such that this slide can be done there."""
    need_tangle(tangle, "tangle")
    words = [slide_at(tangle.crossings, at) for at in range(len(tangle))]
    return tuple([(word, at) for at, word in enumerate(words) if word is not None])


def slid(tangle, word, at):
    """The Tangle behind a slide."""
    need_tangle(tangle, "tangle")
    if not isinstance(word, str) or not is_integer(at) or (word, at) not in slides(tangle):
        raise BadNumber("at")
    crossings = tangle.crossings
    many = 3 if word == "three" else 2
    changed = changed_crossings(word, crossings[at:at + many])
    return Tangle(tangle.lot, crossings[:at] + changed + crossings[at + many:])


def changed_crossings(word, crossings):
    """What becomes of the crossings that a slide changes."""
    if word == "far":
        return crossings[::-1]
    if word == "undo":
        return ()
    (place, sign), (other_place, other_sign), (_, last_sign) = crossings
    return ((other_place, last_sign), (place, other_sign), (other_place, sign))


def put_in(tangle, at, place, sign):
    """The Tangle with two crossings that undo one another put in ahead of crossing number at."""
    need_tangle(tangle, "tangle")
    need_number(at, "at", 0, len(tangle))
    need_number(place, "place", 0, len(tangle.lot) - 2)
    need_sign(sign, "sign")
    added = ((place, sign), (place, -sign))
    return Tangle(tangle.lot, tangle.crossings[:at] + added + tangle.crossings[at:])
