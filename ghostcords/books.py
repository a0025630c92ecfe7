"""Books: what is told of the held and the free lots of a lot."""

from ghostcords.checks import first_twice, is_list, is_within
from ghostcords.errors import BadBook, BadNumber, BadSaying, NoFact, TooMany, Twice
from ghostcords.families import need_family
from ghostcords.needs import need_cords, need_lot, need_one_lot
from ghostcords.sayings import Free, Held

MOST_FACTS = 12


def is_fact(value):
    """Whether a value is a Held or a Free."""
    return isinstance(value, (Held, Free))


class Book:
    """A book: its lot, and the facts that are told."""

    def __init__(self, lot, facts=()):
        need_lot(lot, "lot")
        if not is_list(facts) or not all([is_fact(fact) for fact in facts]):
            raise BadSaying("facts")
        for fact in facts:
            need_cords(fact.lot, lot)
        if len(facts) > MOST_FACTS:
            raise TooMany("facts", MOST_FACTS)
        self.lot = tuple(lot)
        self.facts = tuple(facts)

    def __len__(self):
        return len(self.facts)

    def __eq__(self, other):
        return isinstance(other, Book) and self.lot == other.lot and self.facts == other.facts

    def with_fact(self, saying):
        """The Book with this fact behind the others."""
        if not is_fact(saying):
            raise BadSaying("saying")
        return Book(self.lot, [*self.facts, saying])

    def without(self, numbers):
        """The Book without the facts with these numbers."""
        if not is_list(numbers):
            raise BadNumber("numbers")
        for number in numbers:
            if not is_within(number, 0, len(self.facts) - 1):
                raise NoFact(number)
        twice = first_twice(numbers)
        if twice is not None:
            raise Twice(twice)
        return Book(self.lot, [fact for at, fact in enumerate(self.facts) if at not in numbers])

    def keeps(self, family):
        """Whether a Family of the lot keeps the book."""
        need_family(family, "family")
        need_one_lot(self.lot, family.lot)
        return all([fact.is_so(family) for fact in self.facts])


def need_book(value, part):
    """Raises BadBook for what is no Book."""
    if not isinstance(value, Book):
        raise BadBook(part)
