"""Families: which lots of a lot are held."""

from ghostcords.checks import is_list, is_lot
from ghostcords.errors import BadFamily
from ghostcords.forms import Form, need_form
from ghostcords.holds import least_held
from ghostcords.lots import least_ones, lies_in, lots_in, without_cords
from ghostcords.needs import need_cords, need_lot, need_number, need_one_lot, need_two_cords
from ghostcords.texts import lots_words, read_lot, read_lots, words_of


def are_least(value, lot):
    """Whether a value is a list of lots of two or more cords of a lot, none of which lies in another one."""
    if not is_list(value) or not all([is_lot(own) and len(own) >= 2 and lies_in(own, lot) for own in value]):
        return False
    return len(least_ones(value)) == len(value)


class Family:
    """A family: its lot, and the least held lots."""

    def __init__(self, lot, least=()):
        if not is_lot(lot):
            raise BadFamily("lot")
        if not are_least(least, lot):
            raise BadFamily("least")
        self.lot = tuple(lot)
        self.least = least_ones([tuple(own) for own in least])

    def __eq__(self, other):
        return isinstance(other, Family) and self.lot == other.lot and self.least == other.least

    def __str__(self):
        return " ".join(lots_words(self.lot, self.least))

    def holds(self, lot):
        """Whether a lot of two or more cords is held."""
        need_two_cords(lot, "lot")
        need_cords(lot, self.lot)
        return is_held_by(self.least, lot)

    def all_held(self):
        """The tuple of all held lots, in order."""
        return tuple([lot for lot in lots_in(self.lot, 2) if is_held_by(self.least, lot)])

    def without(self, cords):
        """The Family of the other cords."""
        need_lot(cords, "cords")
        need_cords(cords, self.lot)
        rest = without_cords(self.lot, cords)
        return Family(rest, [own for own in self.least if lies_in(own, rest)])

    @staticmethod
    def read(text):
        """The family whose text this is."""
        words = words_of(text)
        lot, start = read_lot(words, 0)
        return Family(lot, read_lots(words, start, lots_in(lot, 2)))


def is_held_by(least, lot):
    """Whether one of the least held lots lies in a lot."""
    return any([lies_in(own, lot) for own in least])


def need_family(value, part):
    """Raises BadFamily for what is no Family."""
    if not isinstance(value, Family):
        raise BadFamily(part)


def families(many):
    """Yields all Families of the lot of the first so many cords, those with fewer least held lots first."""
    need_number(many, "many", 1, 4)
    lot = tuple(range(many))
    as_many = [()]
    while as_many:
        for least in as_many:
            yield Family(lot, least)
        as_many = [least + (own,) for least in as_many for own in lots_behind(least, lots_in(lot, 2))]


def lots_behind(least, lots):
    """The list of those of these lots that can stand behind the least held lots of a family."""
    later = lots[lots.index(least[-1]) + 1:] if least else lots
    return [lot for lot in later if not is_held_by(least, lot)]


def family_of(form):
    """The Family of the held lots of a Form."""
    need_form(form, "form")
    return Family(form.lot, least_held(form))


def form_for(family):
    """The Form with 1 for each least held lot, at its greatest cord with the row of its other cords."""
    need_family(family, "family")
    return Form(family.lot, [((own[-1], own[:-1]), 1) for own in family.least])


def joined(one, other):
    """The Family that holds a lot if one of two Families of one lot does."""
    need_families(one, other)
    return Family(one.lot, least_ones(one.least + other.least))


def both(one, other):
    """The Family that holds a lot if both of two Families of one lot do."""
    need_families(one, other)
    unions = [tuple(sorted(set(own + its))) for own in one.least for its in other.least]
    return Family(one.lot, least_ones(unions))


def need_families(one, other):
    """Raises what is told for two Families of one lot."""
    need_family(one, "one")
    need_family(other, "other")
    need_one_lot(one.lot, other.lot)
