"""For which t two patterns, or two weaves, are alike, and for which a lot of a weave is free."""

from ghostcords.lots import lies_in
from ghostcords.needs import need_cords, need_one_lot, need_two_cords
from ghostcords.papers import Denial, Paper, fixed
from ghostcords.patterns import Pattern, need_pattern
from ghostcords.polynomials import through
from ghostcords.roots import common_roots
from ghostcords.rows import leads_of
from ghostcords.weaves import need_weave


class AllTimes(Paper):
    """It is so for all t."""

    def __init__(self):
        super().__init__("alltimes")


class JustTimes(Denial):
    """It is so for these t alone: the roots of all these numbers of polynomials, by places."""

    def __init__(self, times, differences):
        super().__init__("justtimes", times, differences)
        self.times = fixed(times)
        self.differences = fixed(differences)


def alike_for(one, other):
    """An AllTimes or a JustTimes: for which t two Patterns, or two Weaves of one lot, are alike."""
    if isinstance(one, Pattern):
        need_pattern(other, "other")
        return times_paper(pattern_differences(one, other))
    need_weave(one, "one")
    need_weave(other, "other")
    need_one_lot(one.lot, other.lot)
    return times_paper([(place, binomial - other.binomials[place]) for place, binomial in one.binomials.items()])


def pattern_differences(one, other):
    """The pairs of a row that leads, of cords of either Pattern, and of the Binomial of one's counts less other's."""
    lot = tuple(sorted(set(one.cords + other.cords)))
    # The degree is at most the number of cords of a row.
    values = [(lead_dict(one, t, lot), lead_dict(other, t, lot)) for t in range(len(lot) + 1)]
    return [(row, through([own.get(row, 0) - its.get(row, 0) for own, its in values])) for row in leads_of(lot)]


def lead_dict(pattern, t, lot):
    """The dict of the counts, other than 0, of rows that lead in the word of a Pattern at t."""
    return {row: count for row, count in pattern.at(t, lot).leads}


def times_paper(told):
    """An AllTimes if all of these Binomials, told by places, are 0 everywhere, otherwise a JustTimes."""
    left = [(place, binomial) for place, binomial in told if binomial.degree >= 0]
    if not left:
        return AllTimes()
    times = common_roots([binomial for _, binomial in left])
    return JustTimes(times, [(place, binomial.numbers) for place, binomial in left])


def free_for(weave, lot):
    """An AllTimes or a JustTimes: for which t a lot of a Weave is free."""
    need_weave(weave, "weave")
    need_two_cords(lot, "lot")
    need_cords(lot, weave.lot)
    return times_paper([(place, binomial) for place, binomial in weave.binomials.items()
                        if lies_in((place[0], *place[1]), lot)])
