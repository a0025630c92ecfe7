"""What the tests share: odd values, refusals, and words and tangles made by a told seed."""

import itertools
import random

from ghostcords.errors import CordError
from ghostcords.forms import Form, places_of
from ghostcords.papers import Denial, Paper
from ghostcords.tangles import Tangle
from ghostcords.words import Word


def nested(depth):
    value = []
    for _ in range(depth):
        value = [value]
    return value


class Strange:
    """A value of another class."""


# None of these is an integer, a cord, a sign, a row, a lot, or a value of a class of the package.
ODD = (None, True, False, 1.0, 0.5, "", "0", "word", b"0", {}, {0: 1}, set(), Strange(), [True], [None], [[0]], (0.0,),
       [0, 0], [5], [-1], [0, 1, 2, 3, 4, 0], nested(59), range(2), Strange)
NO_INTEGERS = ODD + ((), [], [1], Word())
GREAT = (10 ** 25, -10 ** 25, 10 ** 60 - 1, 10 ** 60, 10 ** 5000, -10 ** 5000)


def fields(error):
    return {key: value for key, value in vars(error).items() if not key.startswith("_")}


def refuses(test, wanted, call, *values, **named):
    """The call raises an error of just this class with just these fields, and leaves what is passed."""
    before = repr((values, named)) if not any(has_great(value) for value in values) else None
    with test.assertRaises(CordError) as caught:
        call(*values, **named)
    test.assertIs(type(caught.exception), type(wanted))
    test.assertEqual(fields(caught.exception), fields(wanted))
    for key, value in fields(wanted).items():
        test.assertIs(type(getattr(caught.exception, key)), type(value), key)
    if before is not None:
        test.assertEqual(repr((values, named)), before)


def has_great(value):
    if isinstance(value, (list, tuple)):
        return any(has_great(item) for item in value)
    return isinstance(value, int) and abs(value) > 10 ** 4000


def random_word(chance, many, lot=(0, 1, 2, 3, 4)):
    return Word([(chance.choice(lot), chance.choice((1, -1))) for _ in range(many)]) if lot else Word()


def random_tangle(chance, lot, many):
    """A tangle of many crossings, and then those that bring each cord back."""
    order, crossings = list(lot), []

    def cross(place):
        crossings.append((place, chance.choice((1, -1))))
        order[place], order[place + 1] = order[place + 1], order[place]

    for _ in range(many if len(lot) > 1 else 0):
        cross(chance.randrange(len(lot) - 1))
    while order != list(lot):
        cross(next(place for place in range(len(lot) - 1) if order[place] > order[place + 1]))
    return Tangle(lot, crossings)


def all_rows(lot):
    """All rows of a lot, the empty one too, in order."""
    return [row for many in range(len(lot) + 1) for row in itertools.permutations(lot, many)]


def all_lots():
    return [lot for many in range(6) for lot in itertools.combinations(range(5), many)]


def slow_count(letters, row):
    """The count of a row, straight from its definition."""
    total = 0
    for chosen in itertools.combinations(letters, len(row)):
        if tuple(cord for cord, _ in chosen) == tuple(row):
            product = 1
            for _, sign in chosen:
                product *= sign
            total += product
    return total


def seeded(number):
    return random.Random(number)


def lots_of(lot, least=0):
    """All lots of at least so many of these cords, in order."""
    return [own for many in range(least, len(lot) + 1) for own in itertools.combinations(lot, many)]


def random_form(chance, lot, most=5, likely=0.7):
    return Form(lot, [(place, chance.randint(-most, most)) for place in places_of(lot) if chance.random() < likely])


def shows_no_odd_value(test, shows, right):
    """No value of another kind is right, no paper of another class, and none with another value as a part."""
    kind = type(right)
    test.assertIs(shows(right), True)
    test.assertIs(shows(value=right), True)
    test.assertIs(shows(kind(*[thawed(part) for part in right.parts])), True)
    for value in ODD + GREAT + (right.parts, right.word, kind, Paper(right.word, *right.parts),
                                Denial(right.word, *right.parts)):
        test.assertIs(shows(value), False)
        for at, part in enumerate(right.parts):
            if not (type(value) is type(part) and value == part):
                test.assertIs(shows(kind(*right.parts[:at], value, *right.parts[at + 1:])), False, (at, value))
    for at, part in enumerate(right.parts):
        for bent in bends(part):
            test.assertIs(shows(kind(*right.parts[:at], bent, *right.parts[at + 1:])), False, (at, bent))


def thawed(value):
    """The value with each tuple in it as a list."""
    return [thawed(item) for item in value] if isinstance(value, tuple) else value


def bends(value):
    """The value with True, False and floats for its numbers, one after the other."""
    if isinstance(value, int) and not isinstance(value, bool):
        yield from ([float(value)] if abs(value) < 10 ** 15 else [])
        yield from ([bool(value)] if value in (0, 1) else [])
    if isinstance(value, tuple):
        for at, item in enumerate(value):
            for bent in bends(item):
                yield value[:at] + (bent,) + value[at + 1:]
