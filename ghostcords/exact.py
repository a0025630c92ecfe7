"""Parts of papers that are just what they must be: True and False stand for no number."""

from ghostcords.checks import is_integer
from ghostcords.forms import Form


def is_exactly(value, wanted):
    """Whether a part of a paper is this integer, or this tuple of integers and such tuples."""
    if isinstance(wanted, tuple):
        if not isinstance(value, tuple) or len(value) != len(wanted):
            return False
        return all([is_exactly(value[at], item) for at, item in enumerate(wanted)])
    return is_integer(value) and value == wanted


def is_form(value, wanted):
    """Whether a part of a paper is this Form."""
    return isinstance(value, Form) and value == wanted
