"""Rings: two or three cords, each closed to a ring, and the numbers that they have then."""

from math import gcd

from ghostcords.below import below, undoing
from ghostcords.checks import is_lot, is_within
from ghostcords.errors import BadForm, BadLot, BadNumber, BadRing, BadText, TooMany, Twice
from ghostcords.forms import Form, all_places, need_form
from ghostcords.needs import need_cord, need_number, need_one_lot
from ghostcords.papers import Denial, Paper, fixed
from ghostcords.readings import need_reading
from ghostcords.real import all_readings
from ghostcords.texts import need_end, read_integer, words_of

PAIRS = ((0, 1), (0, 2), (1, 2))
MOST_RINGS = 1000


class Closed:
    """Rings: their turns, the divisor and the last number; only the classes below it are made."""

    def __init__(self, turns, last):
        self.turns = tuple(turns)
        self.divisor = divisor_of(turns)
        self.last = last if self.divisor == 0 else last % self.divisor

    def __eq__(self, other):
        return isinstance(other, Closed) and self.turns == other.turns and self.last == other.last

    @property
    def is_apart(self):
        """Whether the rings are apart."""
        return self.divisor == 0 and self.last == 0

    def pairs(self):
        """The tuple of the pairs of rings, in the order of the turns."""
        return PAIRS[:len(self.turns)]

    def mirrored(self):
        """The rings with the other sign at each crossing."""
        return closed_of([-turn for turn in self.turns], self.last)

    def backwards(self, ring):
        """The rings with the sense of one ring turned about."""
        need_ring(self, ring, "ring")
        turns = [-turn if ring in pair else turn for pair, turn in zip(PAIRS, self.turns)]
        return closed_of(turns, -self.last)

    def exchanged(self, one, other):
        """The rings with two of them told in the other order."""
        need_ring(self, one, "one")
        need_ring(self, other, "other")
        if one == other:
            raise Twice(one)
        turns = dict(zip(PAIRS, self.turns))
        return closed_of([turns[exchanged_pair(pair, one, other)] for pair in self.pairs()], -self.last)


class Pair(Closed):
    """Two rings, with their turn."""

    SIZE = 2

    def __init__(self, p):
        need_number(p, "p")
        super().__init__((p,), 0)

    def __str__(self):
        return " ".join([str(turn) for turn in self.turns])

    @staticmethod
    def apart():
        """Two rings that are apart."""
        return Pair(0)

    @classmethod
    def read(cls, text):
        """The two rings whose text this is."""
        words = words_of(text)
        p = read_integer(words, 0)
        need_end(words, 1)
        return cls(p)


class Rings(Closed):
    """Three rings: the turns of rings 0 and 1, 0 and 2, 1 and 2, and the last number, any integer."""

    SIZE = 3

    def __init__(self, p, q, r, m=0):
        need_number(p, "p")
        need_number(q, "q")
        need_number(r, "r")
        need_number(m, "m")
        super().__init__((p, q, r), m)

    def __str__(self):
        return " ".join([*[str(turn) for turn in self.turns], ":", str(self.last)])

    def without(self, ring):
        """The Pair of the other two rings."""
        need_ring(self, ring, "ring")
        return Pair([turn for pair, turn in zip(PAIRS, self.turns) if ring not in pair][0])

    @staticmethod
    def apart():
        """Three rings that are apart."""
        return Rings(0, 0, 0)

    @classmethod
    def read(cls, text):
        """The three rings whose text this is."""
        words = words_of(text)
        turns = [read_integer(words, at) for at in range(3)]
        if words[3:4] != [":"]:
            raise BadText(0, 3)
        last = read_integer(words, 4)
        rings = cls(*turns, last)
        if rings.last != last:
            raise BadText(0, 4)
        need_end(words, 5)
        return rings


def divisor_of(turns):
    """The greatest common divisor of turns, 0 if all are 0."""
    divisor = 0
    for turn in turns:
        divisor = gcd(divisor, turn)
    return divisor


def closed_of(turns, last):
    """The Pair of one turn, or the Rings of three, with this last number."""
    return Pair(turns[0]) if len(turns) == 1 else Rings(*turns, last)


def exchanged_pair(pair, one, other):
    """The pair that two rings make when they are told in the other order."""
    return tuple(sorted([other if ring == one else one if ring == other else ring for ring in pair]))


def need_ring(rings, value, part):
    """Raises BadNumber for what is none of these rings."""
    if not is_within(value, 0, rings.SIZE - 1):
        raise BadNumber(part)


def need_closed(value, part):
    """Raises BadRing for what is no Pair and no Rings."""
    if not isinstance(value, Closed):
        raise BadRing(part)


def need_ring_lot(lot):
    """Raises BadForm for a lot of another number of cords than two or three."""
    if len(lot) not in (2, 3):
        raise BadForm("lot")


def place_numbers(form):
    """The numbers of a Form at all places, in order: of three cords these are the turns, and the last number."""
    return [form.number(cord, row) for cord, row in all_places(form.lot)]


def rings_of(form):
    """The Pair or the Rings of a Form."""
    need_form(form, "form")
    need_ring_lot(form.lot)
    numbers = place_numbers(form)
    return closed_of(numbers[:3], numbers[-1])


def opened(rings, lot):
    """The Form over a lot with these turns, and the last number as it is told."""
    need_closed(rings, "rings")
    if not is_lot(lot) or len(lot) != rings.SIZE:
        raise BadLot("lot")
    return Form(lot, list(zip(all_places(lot), [*rings.turns, rings.last])))


def same_turns(rings):
    """Yields all values of the class of rings with their turns, the last numbers ascending."""
    need_closed(rings, "rings")
    many = 1 if isinstance(rings, Pair) else rings.divisor
    if not 1 <= many <= MOST_RINGS:
        raise TooMany("rings", MOST_RINGS)
    for last in range(many):
        yield closed_of(rings.turns, last)


def put_round(form, other):
    """The Form of other above form above the undoing of other."""
    need_form(form, "form")
    need_form(other, "other")
    need_one_lot(form.lot, other.lot)
    return below(below(other, form), undoing(other))


def last_by(form, cord, start=None):
    """The last number of a Form of three cords as one of them reads it, perhaps cut elsewhere; no remainder."""
    need_form(form, "form")
    if len(form.lot) != 3:
        raise BadForm("lot")
    need_cord(cord, form.lot)
    at = form.lot.index(cord)
    reading = all_readings(form)[at]
    if start is not None:
        need_reading(start, "start")
        need_one_lot(start.lot, reading.lot)
        reading = start * reading * ~start
    return reading.count((form.lot[at - 2], form.lot[at - 1]))


class OneRing(Paper):
    """The rings of two forms are alike: so many times the divisor leads from one number to the other's."""

    def __init__(self, times):
        super().__init__("onering", times)
        self.times = fixed(times)


class TwoRings(Denial):
    """The rings of two forms are not alike: the index of a turn that differs, or 3, and both numbers."""

    def __init__(self, which, one, other):
        super().__init__("tworings", which, one, other)
        self.which = fixed(which)
        self.one = fixed(one)
        self.other = fixed(other)


def ring_differences(one, other):
    """The list of the index and both numbers of each turn that differs; of the last numbers if no turn does."""
    turns = [(at, turn, other.turns[at]) for at, turn in enumerate(one.turns) if turn != other.turns[at]]
    return turns if turns or one.last == other.last else [(len(PAIRS), one.last, other.last)]


def need_ring_forms(one, other):
    """Raises what is told for two Forms of one lot of two or three cords."""
    need_form(one, "one")
    need_form(other, "other")
    need_one_lot(one.lot, other.lot)
    need_ring_lot(one.lot)


def same_rings(one, other):
    """A OneRing if the rings of two Forms of one lot are alike, otherwise a TwoRings."""
    need_ring_forms(one, other)
    rings = rings_of(one)
    found = ring_differences(rings, rings_of(other))
    if found:
        which, number, its = found[0]
        return TwoRings(which, number, its)
    between = place_numbers(other)[-1] - place_numbers(one)[-1]
    return OneRing(0 if rings.divisor == 0 else between // rings.divisor)
