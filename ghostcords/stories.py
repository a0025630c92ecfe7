"""Stories of desks: played back, compared, merged."""

from ghostcords.checks import is_list
from ghostcords.desk import Desk, need_desk
from ghostcords.desk_lines import ASKS, first_word
from ghostcords.errors import BadDesk, BadLine, BadText, CordError


def replay(lines):
    """A new Desk that is told these deed lines."""
    if not is_list(lines) or not all([isinstance(line, str) for line in lines]):
        raise BadDesk("lines")
    desk = Desk()
    for index, line in enumerate(lines):
        try:
            do_deed(desk, line)
        except CordError as error:
            raise BadLine(index, error)
    return desk


def do_deed(desk, line):
    """Tells a desk a deed line; an ask line is refused."""
    if first_word(line) in ASKS:
        raise BadText(0, 0)
    desk(line)


def parting(one, other):
    """How many lines the stories of two Desks begin with alike."""
    need_desk(one, "one")
    need_desk(other, "other")
    many = 0
    while many < min(len(one.story), len(other.story)) and one.story[many] == other.story[many]:
        many += 1
    return many


def merged(one, other):
    """A new Desk with the story of one and what other did since they parted, and the indexes of what it refused."""
    start = parting(one, other)
    desk = replay(one.story)
    refused = []
    for index in range(start, len(other.story)):
        try:
            desk(other.story[index])
        except CordError:
            refused.append(index)
    return desk, tuple(refused)
