"""Which papers about books are right."""

from ghostcords.answers import Either, Kept, Never, NotKept, Struck, Surely, clashes_of, need_asked
from ghostcords.books import need_book
from ghostcords.checks import is_integer, is_pair
from ghostcords.families import Family
from ghostcords.grounds import never_ways, surely_ways


def shows_possible(book, value):
    """Whether any value is a paper that is right for whether a Book is possible."""
    need_book(book, "book")
    if type(value) is Kept:
        return is_kept_by(book, value.family)
    return type(value) is NotKept and is_clash(book, (value.held, value.free))


def is_kept_by(book, value):
    """Whether any value is a Family that keeps a book."""
    return isinstance(value, Family) and value.lot == book.lot and book.keeps(value)


def is_clash(book, value):
    """Whether any value is a clash of a book."""
    return is_pair(value) and all([is_integer(number) for number in value]) and value in clashes_of(book)


def shows_word(book, saying, value):
    """Whether any value is a paper that is right for a Saying of a Book."""
    need_asked(book, saying)
    if type(value) is Surely:
        return goes_a_way(surely_ways(book, saying), value.numbers)
    if type(value) is Never:
        return goes_a_way(never_ways(book, saying), value.numbers)
    if type(value) is not Either or not is_kept_by(book, value.one) or not is_kept_by(book, value.other):
        return False
    return saying.is_so(value.one) and not saying.is_so(value.other)


def goes_a_way(ways, numbers):
    """Whether any value is a tuple of numbers, or of None, that one of these ways lets."""
    if not isinstance(numbers, tuple) or not all([number is None or is_integer(number) for number in numbers]):
        return False
    return any([lets(way, numbers) for way in ways])


def lets(way, numbers):
    """Whether a way lets these numbers be told."""
    return len(numbers) == len(way) and all([number in way[at] for at, number in enumerate(numbers)])


def shows_struck(book, value):
    """Whether any value is a Struck that is right for a Book."""
    need_book(book, "book")
    if type(value) is not Struck or not ascend(value.numbers) or not isinstance(value.clashes, tuple):
        return False
    clashes = clashes_of(book)
    if any([not is_clash(book, pair) for pair in value.clashes]) or list(value.clashes) != sorted(value.clashes):
        return False
    facts = [number for pair in value.clashes for number in pair]
    if len(facts) != len(set(facts)) or len(value.numbers) != len(value.clashes):
        return False
    return all([held in value.numbers or free in value.numbers for held, free in clashes])


def ascend(numbers):
    """Whether any value is a tuple of integers each of which is greater than the one ahead."""
    if not isinstance(numbers, tuple) or not all([is_integer(number) for number in numbers]):
        return False
    return list(numbers) == sorted(set(numbers))
