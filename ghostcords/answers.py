"""What is sure of all families that keep a book."""

from ghostcords.books import need_book
from ghostcords.errors import Impossible
from ghostcords.families import Family
from ghostcords.grounds import bars, frees, frees_over, helds, helds_of, lots_short_of_one, never_ways, surely_ways
from ghostcords.lots import least_ones, lies_in, lots_in, without_cords
from ghostcords.matching import fewest_facts, most_clashes
from ghostcords.needs import need_cords
from ghostcords.papers import Denial, Paper, fixed
from ghostcords.sayings import Falls, Free, Held, Least, Spare, named_cords, need_saying


class Kept(Paper):
    """A family that keeps a book."""

    def __init__(self, family):
        super().__init__("kept", family)
        self.family = fixed(family)


class NotKept(Denial):
    """No family keeps a book: a clash."""

    def __init__(self, held, free):
        super().__init__("notkept", held, free)
        self.held = fixed(held)
        self.free = fixed(free)


class Surely(Paper):
    """A saying is so for all families that keep a book: numbers of facts that show it."""

    def __init__(self, numbers):
        super().__init__("surely", numbers)
        self.numbers = fixed(numbers)


class Never(Denial):
    """A saying is so for no family that keeps a book: numbers of facts that show it."""

    def __init__(self, numbers):
        super().__init__("never", numbers)
        self.numbers = fixed(numbers)


class Either(Paper):
    """Two families that keep a book: a saying is so for the one, and not for the other."""

    def __init__(self, one, other):
        super().__init__("either", one, other)
        self.one = fixed(one)
        self.other = fixed(other)


class Struck(Paper):
    """As few facts as can be struck so that a book is possible; as many clashes without a common fact."""

    def __init__(self, numbers, clashes):
        super().__init__("struck", numbers, clashes)
        self.numbers = fixed(numbers)
        self.clashes = fixed(clashes)


def clashes_of(book):
    """The list of all clashes of a book, in order."""
    return [(held, free) for held in helds(book) for free in frees(book)
            if lies_in(book.facts[held].lot, book.facts[free].lot)]


def clash(book):
    """The least clash of a Book, None if there is none."""
    need_book(book, "book")
    found = clashes_of(book)
    return found[0] if found else None


def possible(book):
    """A Kept of the least family that keeps a Book, a NotKept if there is a clash."""
    pair = clash(book)
    return Kept(least_of(book)) if pair is None else NotKept(pair[0], pair[1])


def least_of(book):
    """The family of the least ones among the told held lots."""
    return Family(book.lot, least_ones(told_held(book)))


def told_held(book):
    """The list of the told held lots."""
    return [book.facts[at].lot for at in helds(book)]


def need_possible(book):
    """Raises Impossible for a book with a clash."""
    paper = possible(book)
    if not paper:
        raise Impossible(paper)


def least_family(book):
    """The least family that keeps a Book."""
    need_book(book, "book")
    need_possible(book)
    return least_of(book)


def greatest_family(book):
    """The greatest family that keeps a Book."""
    need_book(book, "book")
    need_possible(book)
    return Family(book.lot, least_ones([lot for lot in lots_in(book.lot, 2) if not frees_over(book, lot)]))


def need_asked(book, saying):
    """Raises what is told for a Book and a Saying of cords of its lot."""
    need_book(book, "book")
    need_saying(saying, "saying")
    need_cords(named_cords(saying), book.lot)


def word_of(book, saying):
    """A Surely, a Never or an Either: whether a Saying is so for the families that keep a Book."""
    need_asked(book, saying)
    need_possible(book)
    numbers = first_numbers(surely_ways(book, saying))
    if numbers is not None:
        return Surely(numbers)
    numbers = first_numbers(never_ways(book, saying))
    if numbers is not None:
        return Never(numbers)
    return Either(family_with(book, saying), family_against(book, saying))


def first_numbers(ways):
    """The first numbers of the first one of the ways that is open, None if none is."""
    found = [way for way in ways if all([len(numbers) > 0 for numbers in way])]
    return [numbers[0] for numbers in found[0]] if found else None


def with_lot(book, lot):
    """The least family that keeps a book with a lot put in."""
    return Family(book.lot, least_ones([*told_held(book), lot]))


def family_with(book, saying):
    """A family that keeps a book for which a saying, which is neither surely nor never so, is so."""
    if isinstance(saying, (Held, Least)):
        return with_lot(book, saying.lot)
    if isinstance(saying, Spare):
        return Family(book.lot, least_ones([without_cords(lot, (saying.cord,)) for lot in told_held(book)]))
    return least_of(book)


def family_against(book, saying):
    """A family that keeps a book for which a saying, which is neither surely nor never so, is not so."""
    if isinstance(saying, Free):
        return with_lot(book, saying.lot)
    if isinstance(saying, Falls):
        return greatest_family(book)
    if isinstance(saying, Spare):
        return with_lot(book, [lot for lot in lots_in(book.lot, 2) if saying.cord in lot and not bars(book, lot)][0])
    if isinstance(saying, Least) and helds_of(book, saying.lot):
        return with_lot(book, [lot for lot in lots_short_of_one(saying.lot) if not frees_over(book, lot)][0])
    return least_of(book)


def struck(book):
    """A Struck of a Book."""
    need_book(book, "book")
    pairs = most_clashes(clashes_of(book))
    return Struck(fewest_facts(clashes_of(book), pairs), pairs)
