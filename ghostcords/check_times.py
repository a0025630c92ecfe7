"""Which papers about patterns and weaves are right."""

from ghostcords.exact import is_exactly
from ghostcords.when import AllTimes, JustTimes, alike_for, free_for


def shows_times(one, other, value):
    """Whether any value is the paper that tells for which t two Patterns, or two Weaves, are alike."""
    return is_paper(value, alike_for(one, other))


def shows_free(weave, lot, value):
    """Whether any value is the paper that tells for which t a lot of a Weave is free."""
    return is_paper(value, free_for(weave, lot))


def is_paper(value, wanted):
    """Whether any value is this AllTimes or JustTimes."""
    if type(wanted) is AllTimes:
        return type(value) is AllTimes
    return type(value) is JustTimes and is_exactly((value.times, value.differences), (wanted.times, wanted.differences))
