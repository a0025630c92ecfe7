"""t over k, and polynomials told by the numbers that stand ahead of t over 0, t over 1 and so on."""


def ways_over(times, most):
    """The list of times over 0, 1, .. up to most, none if this is -1."""
    ways = [1]
    for part in range(most):
        ways.append(ways[-1] * (times - part) // (part + 1))
    return ways[:most + 1]


def value_at(numbers, times):
    """The value of the polynomial with these numbers."""
    ways = ways_over(times, len(numbers) - 1)
    return sum([number * ways[at] for at, number in enumerate(numbers)])


def value_at_share(numbers, times):
    """The value of the polynomial with these numbers at 1 over times, not 0; None if it is no integer."""
    above, under = 0, 1
    for at in range(len(numbers) - 1, -1, -1):
        under = under * times * (at + 1)
        above = numbers[at] * under + (1 - at * times) * above
    return above // under if above % under == 0 else None


def differences(values):
    """The numbers of the polynomial, of a degree below how many there are, that has these values at 0, 1, .."""
    numbers = []
    left = list(values)
    while left:
        numbers.append(left[0])
        left = [left[at + 1] - left[at] for at in range(len(left) - 1)]
    return numbers
