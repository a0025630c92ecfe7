"""Lofts: what a desk keeps."""

from ghostcords.books import Book
from ghostcords.checks import first_twice, is_list, is_lot, is_name, is_pair
from ghostcords.desk_lines import first_word, kinds_of, read_line
from ghostcords.errors import BadDesk, BadText, NoName, Nothing, Twice
from ghostcords.tangles import Tangle

OF_THE_HAND = ("tell", "strike", "facts", "fact", "book", "try", "word", "clash", "fails")


def is_thing(value):
    """Whether a value is a pair of a name and a Tangle."""
    return is_pair(value) and is_name(value[0]) and isinstance(value[1], Tangle)


class Loft:
    """What a desk keeps: tangles under their names, the lot in hand, or None, and the facts about it."""

    def __init__(self, things=(), lot=None, facts=()):
        if not is_list(things) or not all([is_thing(thing) for thing in things]):
            raise BadDesk("things")
        twice = first_twice([name for name, _ in things])
        if twice is not None:
            raise Twice(twice)
        if lot is not None and (not is_lot(lot) or len(lot) == 0):
            raise BadDesk("lot")
        if lot is None and (not is_list(facts) or len(facts) > 0):
            raise BadDesk("facts")
        self.things = tuple([(name, tangle) for name, tangle in things])
        self.lot = None if lot is None else tuple(lot)
        self.facts = () if lot is None else Book(lot, facts).facts

    @property
    def names(self):
        """The tuple of the names under which tangles are kept."""
        return tuple([name for name, _ in self.things])

    @property
    def book(self):
        """The Book of the lot in hand and the facts, None if no lot is in hand."""
        return None if self.lot is None else Book(self.lot, self.facts)

    def __eq__(self, other):
        return isinstance(other, Loft) and self.things == other.things and self.in_hand() == other.in_hand()

    def in_hand(self):
        """The pair of the lot in hand and the facts."""
        return (self.lot, self.facts)

    def thing(self, name):
        """The Tangle that is kept under a name."""
        for own, tangle in self.things:
            if is_name(name) and name == own:
                return tangle
        raise NoName(name)


def need_loft(value, part):
    """Raises BadDesk for what is no Loft."""
    if not isinstance(value, Loft):
        raise BadDesk(part)


def told_line(loft, line, table):
    """What a line of a table, DEEDS or ASKS, tells; raises what is told for any value and a Loft."""
    need_loft(loft, "loft")
    word = first_word(line)
    if word not in table:
        raise BadText(0, 0)
    values = read_line(line)
    if word in OF_THE_HAND and loft.lot is None:
        raise Nothing()
    for name in names_in(values, "NAME"):
        loft.thing(name)
    for name in names_in(values, "NEW"):
        if name in loft.names:
            raise Twice(name)
    return values


def names_in(values, kind):
    """The list of the names of a kind that a line tells."""
    kinds = kinds_of(values[0])
    if kinds[1:] == [".."] and kinds[0] == kind:
        return list(values[1:])
    return [value for value, own in zip(values[1:], kinds) if own == kind]
