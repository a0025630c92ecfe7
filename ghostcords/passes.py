"""Passes: crossings at which one ring lets another one through, and the cheapest ones between rings."""

from ghostcords.checks import first_twice, is_list, is_pair, is_within
from ghostcords.errors import BadNumber, Misfit, Twice
from ghostcords.needs import need_number, need_sign
from ghostcords.papers import Denial, Paper, fixed
from ghostcords.rings import closed_of, need_closed
from ghostcords.tangles import Tangle, need_tangle

UP_AND_DOWN = (1, -1)


class Passes(Paper):
    """The cheapest passes from rings to others: their price, and runs of a pair, a change, times and a last number."""

    def __init__(self, price, runs):
        super().__init__("passes", price, runs)
        self.price = fixed(price)
        self.runs = fixed(runs)


class Barred(Denial):
    """No passes lead from rings to others: those that are needed, and barred, as pairs of a pair and a change."""

    def __init__(self, passes):
        super().__init__("barred", passes)
        self.passes = fixed(passes)


def let_through(tangle, *crossings):
    """The Tangle with the other sign at these crossings, told by their indexes."""
    need_tangle(tangle, "tangle")
    for index in crossings:
        need_number(index, "crossings", 0, len(tangle) - 1)
    twice = first_twice(crossings)
    if twice is not None:
        raise Twice(twice)
    changed = [(place, -sign if at in crossings else sign) for at, (place, sign) in enumerate(tangle.crossings)]
    return Tangle(tangle.lot, changed)


def passed(rings, pair, change, times=1, last=0):
    """The Pair or Rings with the turn of a pair grown by change so many times, and with this last number."""
    need_closed(rings, "rings")
    if not is_pair_of(rings, pair):
        raise BadNumber("pair")
    need_sign(change, "change")
    need_number(times, "times", 1)
    if rings.SIZE > 2:
        need_number(last, "last")
    turns = [turn + change * times if own == tuple(pair) else turn for own, turn in zip(rings.pairs(), rings.turns)]
    return closed_of(turns, last)


def is_pair_of(rings, value):
    """Whether any value is a pair of rings among these."""
    if not is_pair(value) or not all([is_within(ring, 0, rings.SIZE - 1) for ring in value]):
        return False
    return tuple(value) in rings.pairs()


def need_passes(one, other, prices):
    """Raises what is told for two Pairs or two Rings, and the prices of passes."""
    need_closed(one, "one")
    need_closed(other, "other")
    if one.SIZE != other.SIZE:
        raise Misfit("rings")
    if prices is not None and not are_prices(prices, len(one.turns)):
        raise BadNumber("prices")


def are_prices(value, many):
    """Whether a value is a list that has for each of so many pairs a pair of prices, each None if barred."""
    if not is_list(value) or len(value) != many or not all([is_pair(own) for own in value]):
        return False
    return all([price is None or is_within(price, 1, None) for own in value for price in own])


def price_dict(rings, prices):
    """The dict of the price of each pass, by its pair and its change; None if it is barred."""
    told = {}
    for at, pair in enumerate(rings.pairs()):
        for which, change in enumerate(UP_AND_DOWN):
            told[(pair, change)] = 1 if prices is None else prices[at][which]
    return told


def turns_to_change(one, other):
    """The list of the passes that turns which differ need, each a pair, a change, and how many times."""
    found = []
    for at, pair in enumerate(one.pairs()):
        grows = other.turns[at] - one.turns[at]
        if grows != 0:
            found.append((pair, 1 if grows > 0 else -1, abs(grows)))
    return found


def price_of_runs(told, runs):
    """The price of runs, which begin with a pair, a change and times; None if one is barred."""
    total = 0
    for run in runs:
        price = told[(run[0], run[1])]
        if price is None:
            return None
        total += price * run[2]
    return total


def fewest_passes(one, other, prices=None):
    """A Passes with the cheapest passes from rings to others, a Barred if none can lead there."""
    need_passes(one, other, prices)
    told = price_dict(one, prices)
    changes = turns_to_change(one, other)
    if not changes and one.last != other.last:
        return there_and_back(one, other, told)
    barred = [(pair, change) for pair, change, _ in changes if told[(pair, change)] is None]
    if barred:
        return Barred(barred[:1])
    return Passes(price_of_runs(told, changes), [(pair, change, times, other.last) for pair, change, times in changes])


def there_and_back(one, other, told):
    """The paper for rings of which the last numbers alone differ: two passes of one pair, or what bars them all."""
    pair, price = cheapest_pair(one, told)
    if pair is None:
        return Barred([barred_passes(own, told)[0] for own in one.pairs()])
    return Passes(price, [(pair, change, 1, other.last) for change in UP_AND_DOWN])


def cheapest_pair(rings, told):
    """The first pair whose passes there and back cost the least, and this price; None for both if all are barred."""
    best, least = None, None
    for pair in rings.pairs():
        if not barred_passes(pair, told):
            price = told[(pair, 1)] + told[(pair, -1)]
            if least is None or price < least:
                best, least = pair, price
    return best, least


def barred_passes(pair, told):
    """The list of the passes of a pair that are barred, the one that adds to its turn ahead."""
    return [(pair, change) for change in UP_AND_DOWN if told[(pair, change)] is None]
