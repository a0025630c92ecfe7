import unittest

from ghostcords.below import below
from ghostcords.books import Book
from ghostcords.cuts import least_cuts
from ghostcords.errors import BadFamily, BadLot, BadNumber, BadSaying, BadText, Misfit, NoCord, NoFact, TooMany, Twice
from ghostcords.families import Family, families, family_of
from ghostcords.forms import Form
from ghostcords.sayings import Falls, Free, Held, Least, Saying, Spare
from ghostcords.tangles import Tangle
from helpers import GREAT, NO_INTEGERS, ODD, all_lots, lots_of, refuses

LOT = (0, 1, 2, 3, 4)
TIED = Family([0, 1, 2, 3], [(0, 1), (1, 2, 3)])


def all_sayings():
    found = [kind(lot) for kind in (Held, Free, Least) for lot in lots_of(LOT, 2)]
    return found + [Spare(cord) for cord in LOT] + [Falls(many) for many in range(6)]


class Sayings(unittest.TestCase):
    def test_attributes(self):
        for kind in (Held, Free, Least):
            lot = [0, 2]
            saying = kind(lot=lot)
            lot.append(4)
            self.assertEqual((saying.lot, str(saying)), ((0, 2), kind.__name__.lower() + " 0 2"))
            refuses(self, NoCord(0), saying.is_so, Family([1]))
            self.assertEqual(kind.__bases__, (Saying,))
        self.assertEqual([Spare(cord=3).cord, Falls(many=5).many], [3, 5])
        self.assertEqual([Spare.__bases__, Falls.__bases__], [(Saying,), (Saying,)])

    def test_refusals(self):
        for value in ODD + GREAT + ((), (0,), (1, 0), 0, Held([0, 1])):
            for kind in (Held, Free, Least):
                refuses(self, BadLot("lot"), kind, value)
        for value in NO_INTEGERS + GREAT + (-1, 5, 6):
            refuses(self, NoCord(value), Spare, value)
        for value in NO_INTEGERS + GREAT + (-1, 6):
            refuses(self, BadNumber("many"), Falls, value)
        for value in ODD + GREAT + (Form([0, 1]), "0 1 :", ((0, 1), ())):
            for saying in (Held([0, 1]), Free([0, 1]), Least([0, 1]), Spare(0), Falls(0)):
                refuses(self, BadFamily("family"), saying.is_so, value)
        for kind in (Held, Free, Least):
            refuses(self, NoCord(1), kind([0, 1, 4]).is_so, Family([0, 2, 3]))
            refuses(self, NoCord(4), kind([0, 1, 4]).is_so, Family([0, 1, 3]))
        refuses(self, NoCord(2), Spare(2).is_so, Family([0, 1]))
        self.assertEqual([Falls(0).is_so(Family([])), Spare(2).is_so(family=Family([2]))], [True, True])

    def test_so_or_not(self):
        for family in families(4):
            held = family.all_held()
            least = [own for own in held if not any(set(other) < set(own) for other in held)]
            for lot in lots_of((0, 1, 2, 3), 2):
                self.assertIs(Held(lot).is_so(family), lot in held)
                self.assertIs(Free(lot).is_so(family), lot not in held)
                self.assertIs(Least(lot).is_so(family), lot in least)
            for cord in (0, 1, 2, 3):
                self.assertIs(Spare(cord).is_so(family), all(cord not in own for own in least))
            for many in range(6):
                self.assertIs(Falls(many).is_so(family), any(len(cords) <= many for cords in least_cuts(family)))

    def test_equal(self):
        sayings = all_sayings()
        for one in sayings:
            for other in all_sayings():
                self.assertIs(one == other, str(one) == str(other))
                self.assertIs(one != other, str(one) != str(other))
            for other in (str(one), None, (0, 1), Family([0, 1])):
                self.assertIs(one == other, False)
        self.assertEqual(Held([0, 1]), Held((0, 1)))

    def test_texts_there_and_back(self):
        for saying in all_sayings():
            read = Saying.read(text=str(saying))
            self.assertEqual((read, type(read)), (saying, type(saying)))

    def test_words_that_cannot_stand(self):
        for text, word in (("", 0), ("hold 0 1", 0), ("Held 0 1", 0), (" held 0 1", 0), ("saying", 0), ("held", 1),
                           ("held 0", 2), ("held 1 0", 2), ("held 0 0", 2), ("held 4", 1), ("held 5", 1), ("held  0 1", 1),
                           ("held 0 1 ", 3), ("held 0 1 1", 3), ("held 0 4 4", 3), ("held 0 1 2 3 4 5", 6), ("free x", 1),
                           ("free 0 01", 2), ("free 0 +1", 2), ("least 0 -1", 2), ("least 3 4 4", 3), ("least", 1),
                           ("spare", 1), ("spare 5", 1), ("spare 00", 1), ("spare 0 1", 2), ("spare 0 ", 2), ("spare -0", 1),
                           ("falls", 1), ("falls 6", 1), ("falls -1", 1), ("falls 01", 1), ("falls -0", 1), ("falls +1", 1),
                           ("falls 1 1", 2), ("falls 1 ", 2), ("falls " + "9" * 61, 1), ("falls 0\n", 1), ("held 0 \u0661", 2),
                           ("held 0 1 2 3 4 ", 6), ("free 0 1 / 2", 3), ("held : 0 1", 1)):
            refuses(self, BadText(0, word), Saying.read, text)
        for value in ODD + GREAT + (0, ["held", "0", "1"], Held([0, 1])):
            if not isinstance(value, str):
                refuses(self, BadText(0, 0), Saying.read, value)

    def test_every_beginning(self):
        whole = {tuple(str(saying).split(" ")) for saying in all_sayings()}
        begun = {words[:many] for words in whole for many in range(len(words) + 1)}
        for words in sorted(begun - {()}):
            for word in ("0", "1", "2", "3", "4", "5", "6", "", "held"):
                told = words + (word,)
                if told in whole:
                    self.assertEqual(str(Saying.read(" ".join(told))), " ".join(told))
                else:
                    wanted = len(told) if told in begun else len(words)
                    refuses(self, BadText(0, wanted), Saying.read, " ".join(told))


class Books(unittest.TestCase):
    def test_attributes(self):
        facts = [Held([0, 1]), Free([0, 2, 3]), Held([0, 1])]
        book = Book(lot=[0, 1, 2, 3], facts=facts)
        facts.pop()
        self.assertEqual((book.lot, book.facts, len(book)), ((0, 1, 2, 3), (*facts, Held([0, 1])), 3))
        self.assertEqual([Book(()).facts, len(Book([])), Book([4]).lot, Book([0, 1], ()).facts], [(), 0, (4,), ()])

    def test_refusals(self):
        for value in ODD + GREAT + ((1, 0), 0):
            if value != []:
                refuses(self, BadLot("lot"), Book, value, "x")
        for value in ODD + GREAT + (Held([0, 1]), [Least([0, 1])], [Held([0, 1]), Spare(0)], [Falls(1)], ["held 0 1"],
                                    [Held([0, 1]), None], {0: Held([0, 1])}, [[Held([0, 1])]], [Held]):
            if value != []:
                refuses(self, BadSaying("facts"), Book, (0, 1), value)
        many = [Held([0, 1])] * 13
        refuses(self, NoCord(3), Book, [0, 1], [Held([0, 1]), Free([0, 3, 4]), Held([2, 3])])
        refuses(self, NoCord(0), Book, [], [Free([0, 1])])
        refuses(self, NoCord(2), Book, [0, 1], many + [Free([1, 2])])
        refuses(self, BadSaying("facts"), Book, [0, 1], [Free([1, 2]), 0])
        refuses(self, TooMany("facts", 12), Book, [0, 1], many)
        self.assertEqual(len(Book([0, 1], many[:12])), 12)

    def test_with_fact(self):
        book = Book([0, 1, 2], [Held([0, 1])])
        for fact in (Held([0, 1]), Free([1, 2])):
            self.assertEqual(book.with_fact(saying=fact), Book([0, 1, 2], [Held([0, 1]), fact]))
        for value in ODD + GREAT + (Least([0, 1]), Spare(0), Falls(2), "held 0 1", [Held([0, 1])]):
            refuses(self, BadSaying("saying"), book.with_fact, value)
        refuses(self, NoCord(3), book.with_fact, Free([0, 3, 4]))
        full = Book([0, 1], [Held([0, 1])] * 12)
        refuses(self, TooMany("facts", 12), full.with_fact, Held([0, 1]))
        refuses(self, NoCord(4), full.with_fact, Held([0, 4]))
        self.assertEqual(len(book), 1)

    def test_without(self):
        facts = [Held([0, 1]), Free([0, 2]), Held([0, 1]), Free([1, 2])]
        book = Book([0, 1, 2], facts)
        for numbers in lots_of((0, 1, 2, 3)):
            wanted = tuple(fact for at, fact in enumerate(facts) if at not in numbers)
            self.assertEqual(book.without(numbers=list(numbers[::-1])).facts, wanted)
            self.assertEqual(book.without(numbers).lot, (0, 1, 2))
        for value in ODD + GREAT + (0, "01", {0: 1}, Held([0, 1])):
            if not isinstance(value, (list, tuple)):
                refuses(self, BadNumber("numbers"), book.without, value)
        for value in NO_INTEGERS + GREAT + (-1, 4):
            refuses(self, NoFact(value), book.without, [1, 1, value])
            refuses(self, NoFact(value), book.without, (value, 9))
        refuses(self, Twice(3), book.without, [1, 3, 3, 1])
        refuses(self, Twice(1), book.without, [1, 0, 1, 0])
        refuses(self, NoFact(0), Book([0, 1]).without, [0])

    def test_keeps(self):
        for facts in ([], [Held([0, 1])], [Free([0, 2, 3]), Held([1, 2, 3])], [Held([0, 1]), Free([0, 1, 2])]):
            book = Book([0, 1, 2, 3], facts)
            for family in families(4):
                self.assertIs(book.keeps(family=family), all(fact.is_so(family) for fact in facts))
        book = Book([0, 1, 2, 3], [Held([0, 1])])
        for value in ODD + GREAT + (Form([0, 1, 2, 3]), Tangle([0])):
            refuses(self, BadFamily("family"), book.keeps, value)
        for lot in all_lots():
            if lot != (0, 1, 2, 3):
                refuses(self, Misfit("lot"), book.keeps, Family(lot))
        above = family_of(below(Form([0, 1, 2, 3], [((1, (0,)), 1)]), Form([0, 1, 2, 3])))
        self.assertIs(book.keeps(above), True)

    def test_equal(self):
        book = Book([0, 1, 2], [Held([0, 1]), Free([1, 2])])
        self.assertTrue(book == Book((0, 1, 2), (Held((0, 1)), Free([1, 2]))))
        for other in (Book([0, 1, 2], [Free([1, 2]), Held([0, 1])]), Book([0, 1, 2, 3], book.facts), Book([0, 1, 2]), None,
                      Book([0, 1, 2], [Held([0, 1]), Held([1, 2])]), TIED, book.facts):
            self.assertIs(book == other, False)
            self.assertIs(book != other, True)


if __name__ == "__main__":
    unittest.main()
