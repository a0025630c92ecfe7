import unittest

from ghostcords.desk_deeds import changed
from ghostcords.desk_lines import ASKS
from ghostcords.errors import BadDesk, BadForm, BadNumber, BadSaying, BadTangle, BadText, Misfit, NoCord, NoFact, NoName
from ghostcords.errors import Nothing, TooMany, Twice
from ghostcords.forms import Form, form_of
from ghostcords.knit import knit
from ghostcords.lofts import Loft
from ghostcords.sayings import Free, Held
from ghostcords.slides import slid
from ghostcords.tangles import Tangle
from helpers import GREAT, ODD, refuses

LONG = Tangle([0, 1], [(0, 1), (0, -1)] * 501)
WOUND = Tangle.read("0 1 2 : -1 +0 +0 +1")
ROW = Tangle.read("0 1 2 : +0 +1 +0 -0 -1 -0")
LEFT, RIGHT = Tangle([0, 1], [(0, 1), (0, 1)]), Tangle([3, 4], [(0, -1), (0, -1)])
THINGS = (("w", WOUND), ("row", ROW), ("left", LEFT), ("right", RIGHT), ("long", LONG))
LOFT = Loft(THINGS, (0, 1, 2), [Held([0, 1]), Free([1, 2]), Held([0, 1, 2])])


def replaced(name, tangle):
    return tuple((own, tangle if own == name else thing) for own, thing in THINGS)


class Deeds(unittest.TestCase):
    def check(self, line, things, answer, loft=LOFT):
        before = (loft.things, loft.lot, loft.facts)
        later, told = changed(loft=loft, line=line)
        self.assertEqual((type(later), later.things, told), (Loft, things, answer))
        self.assertEqual((later.lot, later.facts), before[1:])
        self.assertEqual((loft.things, loft.lot, loft.facts), before)

    def test_put_and_build(self):
        self.check("put new 1 4 : +0 -0", THINGS + (("new", Tangle([1, 4], [(0, 1), (0, -1)])),), "6")
        self.check("put new 3 :", THINGS + (("new", Tangle([3])),), "6")
        self.check("put first 3 :", (("first", Tangle([3])),), "1", Loft())
        form = Form.read("0 1 2 : 1 0 = 2 / 2 0 1 = -1")
        self.check("build new 0 1 2 : 1 0 = 2 / 2 0 1 = -1", THINGS + (("new", knit(form)),), "16")
        self.check("build new 2 :", THINGS + (("new", Tangle([2])),), "0")

    def test_below_beside_and_back(self):
        self.check("below new w row", THINGS + (("new", WOUND * ROW),), "10")
        self.check("below new row w", THINGS + (("new", ROW * WOUND),), "10")
        self.check("below new w w", THINGS + (("new", WOUND * WOUND),), "8")
        self.check("beside new left right", THINGS + (("new", LEFT.beside(RIGHT)),), "4")
        self.check("beside new w right", THINGS + (("new", WOUND.beside(RIGHT)),), "6")
        self.check("back new w", THINGS + (("new", ~WOUND),), "4")

    def test_slide_cut_and_drop(self):
        self.check("slide row undo 2", replaced("row", slid(ROW, "undo", 2)), "4")
        self.check("slide row three 0", replaced("row", slid(ROW, "three", 0)), "6")
        self.check("slide long undo 1000", replaced("long", slid(LONG, "undo", 1000)), "1000")
        self.check("cut w 1", replaced("w", WOUND.without(1)), "2")
        self.check("cut w 2 0", replaced("w", WOUND.without(2).without(0)), "1")
        self.check("cut right 3", replaced("right", RIGHT.without(3)), "1")
        self.check("drop row", tuple(thing for thing in THINGS if thing[0] != "row"), "4")
        self.check("drop left", (), "0", Loft([("left", LEFT)]))

    def test_the_lot_in_hand(self):
        for loft in (LOFT, Loft(THINGS)):
            for line, lot in (("over 0 1 2", (0, 1, 2)), ("over 4", (4,)), ("over 0 1 2 3 4", (0, 1, 2, 3, 4))):
                later, answer = changed(loft, line)
                self.assertEqual((later, answer), (Loft(THINGS, lot), str(len(lot))))

    def test_facts(self):
        later, answer = changed(LOFT, "tell free 0 2")
        self.assertEqual((later, answer), (Loft(THINGS, LOFT.lot, [*LOFT.facts, Free([0, 2])]), "3"))
        later, answer = changed(Loft((), [0, 1]), "tell held 0 1")
        self.assertEqual((later, answer), (Loft((), [0, 1], [Held([0, 1])]), "0"))
        for line, left in (("strike 1", (0, 2)), ("strike 2 0", (1,)), ("strike 1 0 2", ())):
            later, answer = changed(LOFT, line)
            self.assertEqual((later, answer), (Loft(THINGS, LOFT.lot, [LOFT.facts[at] for at in left]), str(len(left))))

    def test_twelve_and_thirteen_facts(self):
        loft = Loft((), [0, 1, 2])
        for number in range(12):
            loft, answer = changed(loft, "tell free 0 1" if number % 2 else "tell held 0 1")
            self.assertEqual((answer, len(loft.facts)), (str(number), number + 1))
        refuses(self, TooMany("facts", 12), changed, loft, "tell held 0 1")
        refuses(self, NoCord(4), changed, loft, "tell held 0 4")
        loft, _ = changed(loft, "strike 11 0")
        self.assertEqual(changed(loft, "tell held 0 1")[1], "10")

    def test_lofts_and_lines(self):
        for value in ODD + GREAT + (THINGS, Tangle([0]), 0):
            refuses(self, BadDesk("loft"), changed, value, None)
        for value in ODD + GREAT + ("", "putt", " drop w"):
            refuses(self, BadText(0, 0), changed, LOFT, value)
        for word in ASKS:
            for rest in ("", " w", " left", " w w", " 0", " x", " w 0", " held 0 1"):
                refuses(self, BadText(0, 0), changed, LOFT, word + rest)
                refuses(self, BadText(0, 0), changed, Loft(), word + rest)
        refuses(self, BadText(0, 4), changed, LOFT, "below new x y z")
        refuses(self, BadText(0, 2), changed, Loft(), "tell held")

    def test_errors_in_their_order(self):
        bare = Loft(THINGS)
        for line in ("tell held 0 4", "tell falls 1", "strike 7 7"):
            refuses(self, Nothing(), changed, bare, line)
        refuses(self, BadText(0, 2), changed, bare, "tell falls x")
        for line, name in (("below w a b", "a"), ("below w w b", "b"), ("beside w left b", "b"), ("beside w b a", "b"),
                           ("back w a", "a"), ("slide a far 9", "a"), ("cut a 4", "a"), ("drop a", "a")):
            refuses(self, NoName(name), changed, LOFT, line)
        for line in ("put w 0 :", "build w :", "build w 0 1 : 1 0 = 5000", "below w w left", "beside w w row", "back w w"):
            refuses(self, Twice("w"), changed, LOFT, line)
        refuses(self, BadForm("form"), changed, LOFT, "build new :")
        refuses(self, TooMany("crossings", 2000), changed, LOFT, "build new 0 1 : 1 0 = 1001")
        refuses(self, TooMany("crossings", 2000), changed, LOFT, "build new 0 1 : 1 0 = " + "9" * 60)
        refuses(self, Misfit("lot"), changed, LOFT, "below new w left")
        refuses(self, TooMany("crossings", 2000), changed, LOFT, "below new long long")
        refuses(self, Misfit("lot"), changed, LOFT, "beside new right left")
        refuses(self, Misfit("lot"), changed, LOFT, "beside new left w")
        refuses(self, Misfit("lot"), changed, LOFT, "beside new left left")
        for line in ("slide row far 0", "slide row undo 0", "slide row undo 6", "slide w three 0", "slide row undo " + "9" * 60):
            refuses(self, BadNumber("at"), changed, LOFT, line)
        for line, cord in (("cut w 3", 3), ("cut w 1 1", 1), ("cut w 1 4 0 2", 4), ("cut right 0 3 4", 0), ("cut w 0 1 1", 1)):
            refuses(self, NoCord(cord), changed, LOFT, line)
        refuses(self, BadTangle("lot"), changed, LOFT, "cut w 1 0 2")
        refuses(self, BadTangle("lot"), changed, Loft([("a", Tangle([4]))]), "cut a 4")
        for line in ("tell least 0 1", "tell spare 4", "tell falls 0"):
            refuses(self, BadSaying("facts"), changed, LOFT, line)
        refuses(self, NoCord(3), changed, LOFT, "tell free 0 3 4")
        for line, number in (("strike 3", 3), ("strike 0 0 5 4", 5), ("strike 1 " + "9" * 60, int("9" * 60))):
            refuses(self, NoFact(number), changed, LOFT, line)
        refuses(self, Twice(2), changed, LOFT, "strike 1 2 0 2 1")

    def test_beside_in_one_form(self):
        later, _ = changed(LOFT, "beside new left right")
        self.assertEqual(str(form_of(later.thing("new"))), "0 1 3 4 : 1 0 = 1 / 4 3 = -1")


if __name__ == "__main__":
    unittest.main()
