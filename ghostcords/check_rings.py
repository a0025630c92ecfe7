"""Which papers about rings and their passes are right."""

from ghostcords.checks import is_integer, is_list, is_sign, is_within
from ghostcords.exact import is_exactly
from ghostcords.passes import Barred, Passes, barred_passes, cheapest_pair, is_pair_of, need_passes, passed
from ghostcords.passes import price_dict, price_of_runs, turns_to_change
from ghostcords.rings import OneRing, TwoRings, need_ring_forms, ring_differences, rings_of, same_rings


def shows_rings(one, other, value):
    """Whether any value is a paper that is right for whether the rings of two Forms of one lot are alike."""
    need_ring_forms(one, other)
    if type(value) is OneRing:
        paper = same_rings(one, other)
        return type(paper) is OneRing and is_exactly(value.times, paper.times)
    found = ring_differences(rings_of(one), rings_of(other))
    return type(value) is TwoRings and any([is_exactly((value.which, value.one, value.other), own) for own in found])


def shows_passes(one, other, value, prices=None):
    """Whether any value is a paper that is right for the cheapest passes from rings to others."""
    need_passes(one, other, prices)
    told = price_dict(one, prices)
    if type(value) is Barred:
        return any([is_exactly(value.passes, way) for way in barred_ways(one, other, told)])
    return type(value) is Passes and leads_cheaply(one, other, told, value)


def barred_ways(one, other, told):
    """The list of the tuples of barred passes that show that none can lead from rings to others."""
    changes = turns_to_change(one, other)
    if changes:
        return [((pair, change),) for pair, change, _ in changes if told[(pair, change)] is None]
    ways = [()] if one.last != other.last else []
    for pair in one.pairs():
        ways = [way + (own,) for way in ways for own in barred_passes(pair, told)]
    return ways


def least_price(one, other, told):
    """The price of the cheapest passes from rings to others, None if none can lead there."""
    changes = turns_to_change(one, other)
    if not changes and one.last != other.last:
        return cheapest_pair(one, told)[1]
    return price_of_runs(told, changes)


def leads_cheaply(one, other, told, paper):
    """Whether the runs of a Passes lead from rings to others for the least price, which it tells."""
    if not is_list(paper.runs) or not all([is_run(one, run) for run in paper.runs]):
        return False
    price = price_of_runs(told, paper.runs)
    if price is None or price != least_price(one, other, told) or not is_exactly(paper.price, price):
        return False
    rings = one
    for pair, change, times, last in paper.runs:
        rings = passed(rings, pair, change, times, last)
    return rings == other


def is_run(rings, value):
    """Whether any value is a pair of these rings, a change, times and a last number, which two rings do not look at."""
    if not is_list(value) or len(value) != 4:
        return False
    pair, change, times, last = value
    if not is_pair_of(rings, pair) or not is_sign(change) or not is_within(times, 1, None):
        return False
    return rings.SIZE == 2 or is_integer(last)
