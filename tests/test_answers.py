import itertools
import unittest

from ghostcords.answers import Either, Kept, Never, NotKept, Struck, Surely, clash, greatest_family, least_family
from ghostcords.answers import possible, struck, word_of
from ghostcords.books import Book
from ghostcords.check_answers import shows_possible, shows_struck, shows_word
from ghostcords.errors import BadBook, BadSaying, Impossible, NoCord
from ghostcords.families import Family, families
from ghostcords.forms import Form
from ghostcords.sayings import Falls, Free, Held, Least, Spare
from helpers import GREAT, ODD, lots_of, refuses, seeded, shows_no_odd_value

LOT = (0, 1, 2, 3, 4)
ALL = {many: list(families(many)) for many in (1, 2, 3, 4)}


def sayings_of(lot):
    found = [kind(own) for own in lots_of(lot, 2) for kind in (Held, Free, Least)]
    return found + [Spare(cord) for cord in lot] + [Falls(many) for many in range(6)]


def random_book(chance, lot, most, kinds=(Held, Free)):
    lots = lots_of(lot, 2)
    return Book(lot, [chance.choice(kinds)(chance.choice(lots)) for _ in range(chance.randint(0, most) if lots else 0)])


def possible_book(chance, lot, most):
    """A book that some family, made at random, keeps."""
    lots = lots_of(lot, 2)
    family = Family(lot, [own for own in lots if len(own) == chance.choice((2, 2, 3)) and chance.random() < 0.3][:1])
    facts = [chance.choice(lots) for _ in range(chance.randint(0, most))]
    return Book(lot, [Held(own) if family.holds(own) else Free(own) for own in facts])


def clashes_of(book):
    return [(at, its) for at, held in enumerate(book.facts) for its, free in enumerate(book.facts)
            if isinstance(held, Held) and isinstance(free, Free) and set(held.lot) <= set(free.lot)]


def keeping(book):
    return [family for family in ALL[len(book.lot)] if all(fact.is_so(family) for fact in book.facts)]


def bars(book, at, lot):
    fact = book.facts[at]
    if isinstance(fact, Free):
        return set(lot) <= set(fact.lot)
    return set(fact.lot) < set(lot)


def table(book, saying, surely):
    """The tests of each number, straight from the table of the document; a list of ways, each a list of tests."""
    facts = book.facts

    def held(test):
        return lambda at: at is not None and isinstance(facts[at], Held) and test(set(facts[at].lot))

    def free(test):
        return lambda at: at is not None and isinstance(facts[at], Free) and test(set(facts[at].lot))

    def barring(lot):
        return lambda at: at is not None and bars(book, at, lot)

    def none(at):
        return at is None

    name = type(saying).__name__ + ("" if surely else " never")
    lot = set(getattr(saying, "lot", ()))
    if name in ("Held", "Free never"):
        return [[held(lambda its: its <= lot)]]
    if name in ("Free", "Held never"):
        return [[free(lambda its: lot <= its)]]
    if name == "Least":
        tests = [held(lambda its: its == lot)]
        for cord in saying.lot if len(lot) >= 3 else ():
            tests.append(free(lambda its, cord=cord: lot - {cord} <= its))
        return [tests]
    if name == "Least never":
        return [[barring(saying.lot)]]
    if name == "Spare":
        return [[barring(own) for own in lots_of(book.lot, 2) if saying.cord in own]]
    if name == "Spare never":
        ways = []
        for number, fact in enumerate(facts):
            if isinstance(fact, Held) and saying.cord in fact.lot:
                rest = set(fact.lot) - {saying.cord}
                last = none if len(rest) == 1 else free(lambda its, rest=rest: rest <= its)
                ways.append([lambda at, number=number: at == number, last])
        return ways
    many, cords = saying.many, set(book.lot)
    if name == "Falls":
        test = free(lambda its: len(cords - its) <= many)
        return [[lambda at: test(at) or (at is None and len(cords) <= many + 1)]]
    return [[held(lambda its, own=own: not its & set(own)) for own in itertools.combinations(book.lot, many)]] \
        if len(cords) >= many else []


def right_numbers(book, saying, surely):
    """All tuples of numbers, at most some hundred, that are right for this book."""
    some = [*range(len(book.facts)), None]
    found = []
    for way in table(book, saying, surely):
        fitting = [[at for at in some if test(at)] for test in way]
        found += list(itertools.islice(itertools.product(*fitting), 60))
    return found


class Possible(unittest.TestCase):
    def books(self):
        chance = seeded(1)
        for many in (1, 2, 3, 4):
            for most in (0, 2, 4, 6, 12):
                for _ in range(5):
                    yield random_book(chance, LOT[:many], most)
                    yield possible_book(chance, LOT[:many], most) if many > 1 else Book(LOT[:1])

    def test_by_all_families(self):
        for book in self.books():
            keep, clashes = keeping(book), clashes_of(book)
            self.assertIs(bool(keep), not clashes)
            self.assertEqual(clash(book=book), min(clashes) if clashes else None)
            paper = possible(book=book)
            if clashes:
                self.assertEqual((type(paper), paper.parts, bool(paper)), (NotKept, min(clashes), False))
                for call in (least_family, greatest_family):
                    refuses_with(self, paper, call, book)
                    refuses_with(self, paper, lambda book: word_of(book, Falls(0)), book)
            else:
                least, greatest = least_family(book=book), greatest_family(book=book)
                self.assertEqual((type(paper), paper.family), (Kept, least))
                held = [set(family.all_held()) for family in keep]
                self.assertEqual(set(least.all_held()), set.intersection(*held))
                self.assertEqual(set(greatest.all_held()), set.union(*held))
                self.assertTrue(least in keep and greatest in keep)
            for family in ALL[len(book.lot)]:
                self.assertIs(shows_possible(book, Kept(family)), family in keep)
            for held, free in itertools.product(range(-1, len(book.facts) + 1), repeat=2):
                self.assertIs(shows_possible(book=book, value=NotKept(held, free)), (held, free) in clashes)

    def test_lots_without_cords_and_of_five(self):
        for lot in ((), (3,), LOT):
            book = Book(lot)
            self.assertEqual([clash(book), possible(book), least_family(book)], [None, Kept(Family(lot)), Family(lot)])
            pairs = [own for own in lots_of(lot, 2) if len(own) == 2]
            self.assertEqual(greatest_family(book), Family(lot, pairs))
        book = Book(LOT, [Held(own) for own in lots_of(LOT, 2) if len(own) == 4] + [Free([0, 1, 2])])
        self.assertEqual(possible(book).family.least, tuple(own for own in lots_of(LOT) if len(own) == 4))

    def test_any_value(self):
        book = Book([0, 1, 2], [Held([0, 1])])
        torn = book.with_fact(Free([0, 1, 2]))
        shows_no_odd_value(self, lambda value: shows_possible(book, value), Kept(Family([0, 1, 2], [(0, 1)])))
        shows_no_odd_value(self, lambda value: shows_possible(torn, value), NotKept(0, 1))
        for wrong in (Family([0, 1], [(0, 1)]), Family([0, 1, 2, 3], [(0, 1)]), Family([0, 1, 2]), Form([0, 1, 2])):
            self.assertIs(shows_possible(book, Kept(wrong)), False)
        for value in ODD + GREAT + (Family([0, 1]), "held 0 1", (Held([0, 1]),)):
            for call in (clash, possible, least_family, greatest_family, struck):
                refuses(self, BadBook("book"), call, value)
            refuses(self, BadBook("book"), shows_possible, value, None)
            refuses(self, BadBook("book"), shows_struck, value, None)
            refuses(self, BadBook("book"), word_of, value, "x")
            refuses(self, BadBook("book"), shows_word, value, "x", None)


def refuses_with(test, paper, call, book):
    with test.assertRaises(Impossible) as caught:
        call(book)
    test.assertEqual(caught.exception.paper, paper)
    test.assertIs(type(caught.exception.paper), NotKept)


class Words(unittest.TestCase):
    def test_by_all_families(self):
        chance = seeded(2)
        seen = {}
        for many in (1, 2, 3, 4):
            for _ in range(40):
                book = possible_book(chance, LOT[:many], chance.choice((0, 1, 3, 6))) if many > 1 else Book([0])
                keep = keeping(book)
                for saying in sayings_of(book.lot):
                    so = [saying.is_so(family) for family in keep]
                    wanted = Surely if all(so) else Either if any(so) else Never
                    paper = word_of(book=book, saying=saying)
                    self.assertIs(type(paper), wanted)
                    self.assertIs(bool(paper), wanted is not Never)
                    self.assertEqual(word_of(book, saying), paper)
                    if wanted is Either:
                        self.assertTrue(paper.one in keep and paper.other in keep)
                        self.assertEqual([saying.is_so(paper.one), saying.is_so(paper.other)], [True, False])
                    else:
                        self.assertIn(paper.numbers, right_numbers(book, saying, wanted is Surely))
                    seen[type(saying), wanted] = seen.get((type(saying), wanted), 0) + 1
                    self.assertIs(shows_word(book=book, saying=saying, value=paper), True)
        self.assertEqual(len(seen), 15)

    def test_each_cell_of_the_table(self):
        chance = seeded(3)
        cells = {}
        for many in (1, 2, 3, 4, 5):
            for _ in range(25):
                book = random_book(chance, LOT[:many], 6)
                for saying in sayings_of(book.lot)[::1 if many < 5 else 3]:
                    for kind in (Surely, Never):
                        right = right_numbers(book, saying, kind is Surely)
                        for numbers in right[:12]:
                            self.assertIs(shows_word(book, saying, kind(list(numbers))), True)
                            self.bend(book, saying, kind, numbers, chance)
                        cells[type(saying), kind] = cells.get((type(saying), kind), 0) + len(right)
        self.assertEqual(len(cells), 10)
        self.assertGreater(min(cells.values()), 10)

    def bend(self, book, saying, kind, numbers, chance):
        """Numbers with one put in, left out or changed are right just if the table has them."""
        ways = table(book, saying, kind is Surely)
        some = [*range(len(book.facts)), None]
        for at in range(len(numbers) + 1):
            number = chance.choice(some)
            bent = [numbers[:at] + (number,) + numbers[at:], numbers[:at] + numbers[at + 1:],
                    numbers[:at] + (number,) + numbers[at + 1:], numbers[:at] + (len(book.facts),) + numbers[at + 1:],
                    numbers[:at] + (-1,) + numbers[at + 1:]]
            for told in bent:
                right = any(len(told) == len(way) and all(own in some and test(own) for own, test in zip(told, way))
                            for way in ways)
                self.assertIs(shows_word(book, saying, kind(told)), right, (str(saying), kind, told))

    def test_two_families_for_either(self):
        book = Book([0, 1, 2, 3], [Held([0, 1]), Free([0, 2, 3])])
        keep = keeping(book)
        for saying in (Held([1, 2]), Free([1, 2]), Least([0, 1, 2]), Least([1, 2]), Spare(2), Falls(1), Falls(0)):
            for one, other in itertools.product(ALL[4][::5] + keep, repeat=2):
                right = one in keep and other in keep and saying.is_so(one) and not saying.is_so(other)
                self.assertIs(shows_word(book, saying, Either(one, other)), right)
        self.assertIs(shows_word(book, Spare(2), Either(Family([0, 1], [(0, 1)]), keep[0])), False)

    def test_books_with_a_clash(self):
        book = Book([0, 1, 2], [Held([0, 1]), Free([0, 1, 2])])
        self.assertIs(shows_word(book, Held([0, 1]), Surely([0])), True)
        self.assertIs(shows_word(book, Held([0, 1]), Never([1])), True)
        self.assertIs(shows_word(book, Held([0, 1]), Either(Family([0, 1, 2], [(0, 1)]), Family([0, 1, 2]))), False)
        refuses_with(self, NotKept(0, 1), lambda told: word_of(told, Held([0, 1])), book)
        refuses(self, BadSaying("saying"), word_of, book, None)
        refuses(self, NoCord(3), word_of, book, Spare(3))

    def test_edges(self):
        for lot in ((), (2,)):
            self.assertEqual(word_of(Book(lot), Falls(0)), Surely((None,)))
        self.assertEqual(word_of(Book([2]), Spare(2)), Surely(()))
        self.assertIs(shows_word(Book([2]), Spare(2), Surely([])), True)
        self.assertIs(shows_word(Book([2]), Spare(2), Never([])), False)
        self.assertEqual(word_of(Book(LOT), Falls(4)), Surely([None]))
        self.assertEqual(word_of(Book(LOT, [Held([0, 1])]), Falls(0)), Never([0]))
        self.assertIs(type(word_of(Book(LOT), Falls(3))), Either)
        full = [Held(own) for own in ((0, 1), (1, 2), (2, 3), (3, 4), (0, 4))]
        self.assertIs(type(word_of(Book(LOT, full), Falls(2))), Never)
        self.assertIs(type(word_of(Book(LOT, full), Falls(3))), Either)
        self.assertEqual(word_of(Book(LOT, full), Falls(5)), Surely([None]))
        self.assertIs(shows_word(Book(LOT), Falls(5), Never([])), False)
        self.assertIs(shows_word(Book([0, 1]), Falls(2), Never([0])), False)
        self.assertEqual(word_of(Book([0, 1, 2], [Held([0, 1]), Held([0, 1])]), Least([0, 1])), Surely([0]))

    def test_any_value(self):
        book = Book([0, 1, 2, 3], [Held([0, 1]), Free((0, 2, 3)), Held([0, 1, 2])])
        tied, least = Family([0, 1, 2, 3], [(0, 1), (1, 2, 3)]), least_family(book)
        shows_no_odd_value(self, lambda value: shows_word(book, Spare(2), value), Either(least, tied))
        shows_no_odd_value(self, lambda value: shows_word(book, Falls(1), value), Surely((1,)))
        shows_no_odd_value(self, lambda value: shows_word(book, Spare(0), value), Never((0, None)))
        for wrong in (Surely([1, 1]), Surely(1), Surely([True]), Surely([1.0]), Surely([[1]]), Surely([]), Never([1])):
            self.assertIs(shows_word(book, Falls(1), wrong), False)
        for call in (word_of, lambda book, saying: shows_word(book, saying, None)):
            for value in ODD + GREAT + ("held 0 1", (0, 1), book, Family([0, 1])):
                refuses(self, BadSaying("saying"), call, book, value)
            refuses(self, NoCord(4), call, book, Held([0, 4]))
            refuses(self, NoCord(4), call, book, Spare(4))
            refuses(self, NoCord(0), call, Book([]), Free([0, 1]))


class StruckFacts(unittest.TestCase):
    def books(self):
        chance = seeded(4)
        for many in (2, 3, 4, 5):
            for most in (2, 5, 8, 12):
                for _ in range(4):
                    yield random_book(chance, LOT[:many], most)
        yield Book([0, 1, 2], [Held([0, 1])] * 6 + [Free([0, 1, 2])] * 6)
        yield Book([0, 1], [Held([0, 1]), Free([0, 1])] * 6)
        yield Book([])

    def test_fewest(self):
        for book in self.books():
            clashes = clashes_of(book)
            fewest = next(many for many in range(13) for own in itertools.combinations(range(len(book.facts)), many)
                          if all(set(own) & set(pair) for pair in clashes))
            paper = struck(book=book)
            self.assertIs(type(paper), Struck)
            self.assertEqual([len(paper.numbers), len(paper.clashes)], [fewest, fewest])
            self.assertIsNone(clash(book.without(paper.numbers)))
            self.assertEqual(list(paper.numbers), sorted(set(paper.numbers)))
            self.assertEqual(list(paper.clashes), sorted(paper.clashes))
            self.assertEqual(len({number for pair in paper.clashes for number in pair}), 2 * fewest)
            self.assertTrue(set(paper.clashes) <= set(clashes))
            self.assertEqual(struck(book), paper)
            self.assertIs(shows_struck(book=book, value=paper), True)

    def test_shows(self):
        for book in self.books():
            clashes, paper = clashes_of(book), struck(book)
            for numbers in lots_of(range(min(len(book.facts), 8)))[::7]:
                right = len(numbers) == len(paper.numbers) and all(set(pair) & set(numbers) for pair in clashes)
                self.assertIs(shows_struck(book, Struck(list(numbers), paper.clashes)), right)
                for wrong in (numbers + numbers[-1:], numbers[::-1]):
                    if wrong != numbers:
                        self.assertIs(shows_struck(book, Struck(wrong, paper.clashes)), False)
            if len(paper.clashes) > 1:
                for wrong in (paper.clashes[::-1], paper.clashes[1:], paper.clashes[:1] * len(paper.clashes)):
                    self.assertIs(shows_struck(book, Struck(paper.numbers, wrong)), False)
            if paper.clashes:
                self.assertIs(shows_struck(book, Struck((), ())), False)
                self.assertIs(shows_struck(book, Struck(range(len(book.facts)), clashes)), False)

    def test_any_value(self):
        torn = Book([0, 1, 2], [Held([0, 1]), Free([0, 1, 2]), Held([1, 2])])
        shows_no_odd_value(self, lambda value: shows_struck(torn, value), Struck((1,), ((0, 1),)))
        self.assertIs(shows_struck(torn, Struck([1], [[2, 1]])), True)
        for wrong in (Struck([1], [(1, 0)]), Struck([1], [(0, 2)]), Struck([0], [(0, 1)]), Struck([1], [(0, 1, 1)]),
                      Struck([1], [0]), Struck([3], [(0, 1)])):
            self.assertIs(shows_struck(torn, wrong), False)
        shows_no_odd_value(self, lambda value: shows_struck(Book([0]), value), Struck((), ()))


if __name__ == "__main__":
    unittest.main()
