"""Roots of polynomials: the integers at which they are 0.

The steps of a polynomial are the t at which it, or one of its differences, has another sign than at t - 1.
Between two steps of its difference a polynomial rises, falls or stays, so its own steps there are found by
guesses; and each root is a step, since at t - 1 and t not all differences can stay 0.
"""

from ghostcords.checks import is_list
from ghostcords.errors import BadPattern
from ghostcords.polynomials import Binomial, need_binomial


def roots_of(binomial):
    """The ascending tuple of all roots of a Binomial, None if it is 0 everywhere."""
    need_binomial(binomial, "binomial")
    if binomial.degree < 0:
        return None
    steps = []
    for level in range(binomial.degree - 1, -1, -1):
        steps = steps_with(factors_of(binomial.numbers[level:]), steps)
    return tuple([t for t in steps if binomial.at(t) == 0])


def common_roots(binomials):
    """The ascending tuple of the roots of all of these Binomials, None if each is 0 everywhere."""
    if not is_list(binomials) or not all([isinstance(binomial, Binomial) for binomial in binomials]):
        raise BadPattern("binomials")
    left = [binomial for binomial in binomials if binomial.degree >= 0]
    if not left:
        return None
    degrees = [binomial.degree for binomial in left]
    roots = roots_of(left[degrees.index(min(degrees))])
    return tuple([t for t in roots if all([binomial.at(t) == 0 for binomial in left])])


def factors_of(numbers):
    """What stands ahead of 1, t, t (t - 1) .. in a multiple of the polynomial with these numbers."""
    factors = []
    whole = 1
    for at in range(len(numbers) - 1, -1, -1):
        factors.append(numbers[at] * whole)
        whole = whole * at
    return factors[::-1]


def value_of(factors, t):
    """The value at t."""
    total = 0
    for at in range(len(factors) - 1, -1, -1):
        total = total * (t - at) + factors[at]
    return total


def steps_with(factors, steps):
    """The ascending list of these steps, those of the difference, and of the steps of a polynomial itself."""
    points = steps if steps else [0]
    values = [value_of(factors, t) for t in points]
    found = list(points)
    found.extend(steps_beyond(factors, points[0], values[0], -1))
    for at in range(len(points) - 1):
        found.extend(steps_between(factors, points[at], points[at + 1]))
    found.extend(steps_beyond(factors, points[-1], values[-1], 1))
    return sorted(set(found))


def steps_beyond(factors, start, value, way):
    """The steps from start on, upwards or downwards, where the polynomial rises or falls all the way."""
    change = value_of(factors, start + way) - value
    if value == 0 or (value > 0) == (change > 0):
        return [start + 1] if value == 0 else []
    end = start + way * distance_across(factors, start, way)
    return steps_between(factors, min(start, end), max(start, end))


def distance_across(factors, start, way):
    """A power of 2 as distance, about the least one, at which the sign is the other one than at start."""
    value = value_of(factors, start)
    least, most = 0, 1
    while value * value_of(factors, start + way * (1 << most)) >= 0:
        least, most = most, 2 * most
    while most - least > 1:
        half = (least + most) // 2
        if value * value_of(factors, start + way * (1 << half)) >= 0:
            least = half
        else:
            most = half
    return 1 << most


def steps_between(factors, low, high):
    """The steps behind low, up to high, where the polynomial rises, falls or stays."""
    first, last = value_of(factors, low), value_of(factors, high)
    if first == 0:
        return [low + 1] if last != 0 else []
    if (first > 0) == (last > 0) and last != 0:
        return []
    step = crossing(factors, low, high)
    return [step, step + 1] if value_of(factors, step) == 0 else [step]


def crossing(factors, low, high):
    """The first t behind low, up to high, at which a polynomial that rises or falls has not its sign at low.

    It is guessed where a straight line crosses 0, an end that stays counting less and less; in the middle if
    guesses have not halved what is left.
    """
    first, last = value_of(factors, low), value_of(factors, high)
    start = first
    lows, highs, guesses, width = 0, 0, 0, high - low
    while high - low > 1:
        one, other = first << max(0, lows - 1), last << max(0, highs - 1)
        guess = max(low + 1, min(high - 1, low + (high - low) * one // (one - other)))
        if guesses == 3:
            guess = (low + high) // 2
        here = value_of(factors, guess)
        if start * here > 0:
            low, first, lows, highs = guess, here, lows + 1, 0
        else:
            high, last, lows, highs = guess, here, 0, highs + 1
        guesses += 1
        if 2 * (high - low) <= width:
            guesses, width = 0, high - low
    return high
