"""Which facts of a book show that a saying is surely, or never, so.

They are told as ways: each is a list that has for each number to be told the list of those that may be,
None among them where no fact is needed. A way is open if none of these lists is empty.
"""

from ghostcords.lots import have_common, lies_in, lots_in, without_cords
from ghostcords.sayings import Free, Held, Least, Spare


def surely_ways(book, saying):
    """The ways to show that a Saying is surely so."""
    if isinstance(saying, Held):
        return [[helds_in(book, saying.lot)]]
    if isinstance(saying, Free):
        return [[frees_over(book, saying.lot)]]
    if isinstance(saying, Least):
        return [[helds_of(book, saying.lot), *[frees_over(book, rest) for rest in lots_short_of_one(saying.lot)]]]
    if isinstance(saying, Spare):
        return [[bars(book, lot) for lot in lots_in(book.lot, 2) if saying.cord in lot]]
    return [[frees_lacking(book, saying.many)]]


def never_ways(book, saying):
    """The ways to show that a Saying is never so."""
    if isinstance(saying, Held):
        return [[frees_over(book, saying.lot)]]
    if isinstance(saying, Free):
        return [[helds_in(book, saying.lot)]]
    if isinstance(saying, Least):
        return [[bars(book, saying.lot)]]
    if isinstance(saying, Spare):
        return [never_spare_way(book, saying.cord, at) for at in helds(book) if saying.cord in book.facts[at].lot]
    if len(book.lot) < saying.many:
        return []
    return [[helds_apart(book, cords) for cords in lots_in(book.lot, 0) if len(cords) == saying.many]]


def never_spare_way(book, cord, at):
    """The way in which the Held with this number shows that its cord is never spare."""
    others = without_cords(book.facts[at].lot, (cord,))
    return [[at], [None] if len(others) == 1 else frees_over(book, others)]


def lots_short_of_one(lot):
    """The lots of two or more cords that lack one of these, the least one first."""
    return [without_cords(lot, (cord,)) for cord in lot if len(lot) > 2]


def helds(book):
    """The numbers of the Helds."""
    return [at for at, fact in enumerate(book.facts) if isinstance(fact, Held)]


def frees(book):
    """The numbers of the Frees."""
    return [at for at, fact in enumerate(book.facts) if isinstance(fact, Free)]


def helds_of(book, lot):
    """The numbers of the Helds of just this lot."""
    return [at for at in helds(book) if book.facts[at].lot == lot]


def helds_in(book, lot):
    """The numbers of the Helds whose lots lie in this one."""
    return [at for at in helds(book) if lies_in(book.facts[at].lot, lot)]


def helds_apart(book, cords):
    """The numbers of the Helds whose lots have none of these cords."""
    return [at for at in helds(book) if not have_common(book.facts[at].lot, cords)]


def frees_over(book, lot):
    """The numbers of the Frees in whose lots this one lies."""
    return [at for at in frees(book) if lies_in(lot, book.facts[at].lot)]


def frees_lacking(book, many):
    """The numbers of the Frees whose lots lack so many cords or fewer; None, too, if all lots with two others do."""
    numbers = [at for at in frees(book) if len(book.lot) - len(book.facts[at].lot) <= many]
    return numbers + [None] if len(book.lot) <= many + 1 else numbers


def bars(book, lot):
    """The numbers of the facts that bar a lot, ascending."""
    others = [at for at in helds_in(book, lot) if book.facts[at].lot != lot]
    return sorted(frees_over(book, lot) + others)
