"""Polynomials, told by the numbers that stand ahead of t over 0, t over 1 and so on."""

from ghostcords.checks import is_integer, is_list
from ghostcords.errors import BadPattern, TooMany
from ghostcords.needs import need_number
from ghostcords.overs import differences, value_at

MOST_NUMBERS = 12


def are_integers(value):
    """Whether a value is a list of integers."""
    return is_list(value) and all([is_integer(number) for number in value])


class Binomial:
    """A polynomial: its numbers, the last one not 0, and its degree."""

    def __init__(self, numbers):
        if not are_integers(numbers):
            raise BadPattern("numbers")
        many = len(numbers)
        while many > 0 and numbers[many - 1] == 0:
            many -= 1
        if many > MOST_NUMBERS:
            raise TooMany("numbers", MOST_NUMBERS)
        self.numbers = tuple(numbers[:many])
        self.degree = many - 1

    def __eq__(self, other):
        return isinstance(other, Binomial) and self.numbers == other.numbers

    def __add__(self, other):
        need_binomial(other, "other")
        return Binomial([one + its for one, its in number_pairs(self, other)])

    def __sub__(self, other):
        need_binomial(other, "other")
        return Binomial([one - its for one, its in number_pairs(self, other)])

    def __mul__(self, other):
        need_binomial(other, "other")
        return Binomial(differences(product_values(self.numbers, other.numbers)))

    def __neg__(self):
        return Binomial([-number for number in self.numbers])

    def at(self, t):
        """The value at t."""
        need_number(t, "t")
        return value_at(self.numbers, t)

    def put(self, u, v):
        """The polynomial with u t + v in the place of t."""
        need_number(u, "u")
        need_number(v, "v")
        return Binomial(differences([self.at(u * t + v) for t in range(len(self.numbers))]))


def number_pairs(one, other):
    """The pairs of the numbers of two polynomials, 0 where one has no more."""
    most = max(len(one.numbers), len(other.numbers))
    first = list(one.numbers) + [0] * (most - len(one.numbers))
    second = list(other.numbers) + [0] * (most - len(other.numbers))
    return list(zip(first, second))


def product_values(one, other):
    """The values at 0, 1, .. of the product of two polynomials with these numbers, as many as tell it."""
    return [value_at(one, t) * value_at(other, t) for t in range(len(one) + len(other))]


def need_binomial(value, part):
    """Raises BadPattern for what is no Binomial."""
    if not isinstance(value, Binomial):
        raise BadPattern(part)


def through(values):
    """The Binomial that has these values, one or more, at 0, 1, .., of a degree below how many they are."""
    if not are_integers(values) or len(values) == 0:
        raise BadPattern("values")
    return Binomial(differences(values))
