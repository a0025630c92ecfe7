import unittest

from ghostcords.books import Book
from ghostcords.errors import BadDesk, BadSaying, NoCord, NoName, TooMany, Twice
from ghostcords.lofts import Loft
from ghostcords.sayings import Falls, Free, Held, Least
from ghostcords.tangles import Tangle
from helpers import GREAT, ODD, refuses

ONE, TWO = Tangle([0, 1], [(0, 1), (0, 1)]), Tangle([2])


class Lofts(unittest.TestCase):
    def test_attributes(self):
        things, lot, facts = [["b", ONE], ("a1", TWO)], [0, 1, 2], [Held([0, 1]), Free([1, 2])]
        loft = Loft(things=things, lot=lot, facts=facts)
        things[0][0], lot[0], facts[0] = "z", 4, None
        things.pop()
        self.assertEqual((loft.things, loft.lot, loft.facts),
                         ((("b", ONE), ("a1", TWO)), (0, 1, 2), (Held([0, 1]), Free([1, 2]))))
        self.assertEqual((loft.names, loft.book), (("b", "a1"), Book([0, 1, 2], [Held([0, 1]), Free([1, 2])])))
        self.assertEqual([loft.thing("b"), loft.thing(name="a1")], [ONE, TWO])
        empty = Loft()
        self.assertEqual((empty.things, empty.lot, empty.facts, empty.names, empty.book), ((), None, (), (), None))
        self.assertEqual((Loft([], [3]).book, Loft((), None, []).facts), (Book([3]), ()))

    def test_refusals(self):
        for value in ODD + GREAT + (0, [("a", ONE, ONE)], [("a",)], [("1a", ONE)], [("a", None)], [ONE], ("a", ONE), {"a": ONE},
                                    [("a", ONE), ("B", ONE)], [("", ONE)], [("a" * 13, ONE)], [(ONE, "a")], [(b"a", ONE)]):
            refuses(self, BadDesk("things"), Loft, value, "x", "x")
        refuses(self, BadDesk("things"), Loft, [("a", ONE), ("a", ONE), ("A", ONE)])
        refuses(self, Twice("b"), Loft, [("a", ONE), ("b", ONE), ("b", TWO), ("a", ONE)], "x", "x")
        for value in ODD[1:] + GREAT + ((), [], (1, 0), (0, 0), 0, {0, 1}):
            if value not in ([5], [-1]) or value is True:
                refuses(self, BadDesk("lot"), Loft, [("a", ONE)], value, "x")
        for value in ODD + GREAT + (0, [Held([0, 1])], (None,), Held([0, 1])):
            refuses(self, BadDesk("facts"), Loft, [("a", ONE)], None, value)
        for value in ODD + GREAT + (0, Held([0, 1]), [Least([0, 1])], [Falls(1)], [Held([0, 1]), "held 0 1"], Book([0, 1])):
            refuses(self, BadSaying("facts"), Loft, [], [0, 1], value)
        refuses(self, NoCord(2), Loft, [], [0, 1], [Held([0, 1]), Free([0, 2, 4])])
        refuses(self, TooMany("facts", 12), Loft, [], [0, 1], [Held([0, 1])] * 13)
        self.assertEqual(len(Loft([], [0, 1], [Held([0, 1])] * 12).facts), 12)

    def test_names_of_twelve_characters(self):
        loft = Loft([("a", ONE), ("abcdefghij12", TWO)])
        self.assertEqual(loft.names, ("a", "abcdefghij12"))
        for value in ODD + GREAT + (0, "b", "A", "abcdefghij1", ("a",), ONE, b"a"):
            refuses(self, NoName(value), loft.thing, value)

    def test_equal(self):
        loft = Loft([("a", ONE), ("b", TWO)], [0, 1], [Held([0, 1])])
        self.assertTrue(loft == Loft((["a", ONE], ["b", TWO]), (0, 1), (Held([0, 1]),)) and not loft != loft)
        for other in (Loft([("b", TWO), ("a", ONE)], [0, 1], [Held([0, 1])]), Loft([("a", ONE)], [0, 1], [Held([0, 1])]),
                      Loft(loft.things, [0, 1, 2], loft.facts), Loft(loft.things, [0, 1]), Loft(loft.things), None, loft.things,
                      Loft([("a", TWO), ("b", TWO)], [0, 1], [Held([0, 1])]), Loft(loft.things, [0, 1], [Free([0, 1])])):
            self.assertIs(loft == other, False)
            self.assertIs(loft != other, True)


if __name__ == "__main__":
    unittest.main()
