import unittest

from ghostcords.desk import Desk
from ghostcords.desk_asks import answer_of
from ghostcords.desk_deeds import changed
from ghostcords.desk_lines import ASKS, DEEDS
from ghostcords.errors import BadLine, BadText, CordError, Misfit, NoCord, NoFact, NoName, Nothing, TooMany, Twice
from ghostcords.lofts import Loft
from ghostcords.sayings import Held
from ghostcords.tangles import Tangle
from helpers import GREAT, ODD, fields, refuses, seeded

LINES = ("put a 0 1 2 : +0 +0", "put b 0 1 2 : -1 +0 +0 +1", "build c 0 1 : 1 0 = 2", "below d a b", "back e d", "beside f c a",
         "put g 3 : ", "put g 3 :", "slide d far 0", "slide d undo 0", "below h d e", "slide h undo 3", "cut h 1", "cut a 0 1",
         "drop e", "drop x", "over 0 1 2", "over 0 1", "tell held 0 1", "tell free 0 1 2", "tell free 1 2", "strike 0", "strike 1 0",
         "names", "show a", "form b", "held b", "facts", "fact 0", "book", "word held 0 1 2", "clash", "fails b", "alike a b",
         "past a b", "times b -2", "root b 2", "when a b", "rings b", "passes b", "lot", "xyz", "names a")


def state(desk):
    return desk.loft, desk.story, len(desk)


def refused(call, *values):
    """The error that a call raises, None if it raises none."""
    try:
        call(*values)
    except CordError as error:
        return error
    return None


class Stepwise:
    """A desk as its words tell it: a story that is told anew each time."""

    def __init__(self):
        self.story, self.later = [], []

    def loft(self, lines=None):
        loft = Loft()
        for line in self.story if lines is None else lines:
            loft, _ = changed(loft, line)
        return loft

    def tell(self, line):
        loft = self.loft()
        if line.split(" ")[0] in ASKS:
            return answer_of(loft, line)
        _, answer = changed(loft, line)
        self.story, self.later = self.story + [line], []
        return answer


class Desks(unittest.TestCase):
    def same(self, desk, model):
        self.assertEqual(desk.story, tuple(model.story))
        self.assertEqual(desk.loft, model.loft())
        self.assertEqual(len(desk), len(model.loft().facts))

    def test_a_new_desk(self):
        desk = Desk()
        self.assertEqual((desk.loft, desk.story, len(desk)), (Loft(), (), 0))
        for call in (desk.undo, desk.redo):
            refuses(self, Nothing(), call)
        self.assertEqual((desk.told(), desk.tried(), desk("names"), desk("lot")), ((), (), "-", "-"))

    def test_random_lines(self):
        for seed in range(12):
            chance = seeded(seed)
            desk, model = Desk(), Stepwise()
            for _ in range(60):
                choice = chance.random()
                if choice < 0.15:
                    if model.story:
                        model.later.append(model.story.pop())
                        self.assertEqual(desk.undo(), model.later[-1])
                    else:
                        refuses(self, Nothing(), desk.undo)
                elif choice < 0.3:
                    if model.later:
                        model.story.append(model.later.pop())
                        self.assertEqual(desk.redo(), model.story[-1])
                    else:
                        refuses(self, Nothing(), desk.redo)
                else:
                    self.one_line(desk, model, chance.choice(LINES))
                self.same(desk, model)

    def one_line(self, desk, model, line):
        error = refused(model.tell, line)
        if error is not None:
            refuses(self, error, desk, line)
        else:
            # The model has done the line by now; told on it once more, an ask gets the same answer.
            answer = desk(line)
            loft = model.loft(model.story[:-1]) if line.split(" ")[0] in DEEDS else model.loft()
            wanted = changed(loft, line)[1] if line.split(" ")[0] in DEEDS else answer_of(loft, line)
            self.assertEqual(answer, wanted)

    def test_all_or_none(self):
        for seed in range(30):
            chance = seeded(100 + seed)
            desk = Desk()
            desk.told("put a 0 1 2 : +0 +0", "put b 0 1 2 : -1 +0 +0 +1", "over 0 1 2", "tell held 0 1", "drop a")
            desk.undo()
            lines = [chance.choice(LINES) for _ in range(chance.randint(1, 5))]
            one_by_one = desk.twin()
            answers, wanted = [], None
            for index, line in enumerate(lines):
                error = refused(lambda line: answers.append(one_by_one(line)), line)
                if error is not None:
                    wanted = BadLine(index, error)
                    break
            before = state(desk)
            for call in (desk.tried, desk.told):
                if wanted is None:
                    self.assertEqual(call(*lines), tuple(answers))
                else:
                    error = refused(call, *lines)
                    self.assertEqual((type(error), error.line), (BadLine, wanted.line))
                    self.assertEqual((type(error.error), fields(error.error)), (type(wanted.error), fields(wanted.error)))
                if wanted is not None or call == desk.tried:
                    self.assertEqual(state(desk), before)
                    twin = desk.twin()
                    self.assertEqual(twin.redo(), "drop a")
            if wanted is None:
                self.assertEqual(state(desk), state(one_by_one))

    def test_lines_that_are_none(self):
        desk = Desk()
        for value in ODD + GREAT:
            if value != "word":
                refuses(self, BadText(0, 0), desk, value)
                error = refused(desk.told, "names", value)
                self.assertEqual((error.line, type(error.error), error.error.line, error.error.word), (1, BadText, 0, 0))
        refuses(self, BadText(0, 1), desk, "word")
        refuses(self, BadText(0, 2), desk, "put a")
        refuses(self, NoName("a"), desk, "show a")

    def test_what_ends_what_can_be_done_again(self):
        for line, ends in (("names", False), ("show a", False), ("show x", False), ("drop x", False), ("xyz", False),
                           ("put b 1 :", True), ("over 0", True)):
            desk = Desk()
            desk.told("put a 0 :", "put b 0 :")
            desk.undo()
            refused(desk, line)
            if ends:
                refuses(self, Nothing(), desk.redo)
            else:
                self.assertEqual(desk.redo(), "put b 0 :")
        desk = Desk()
        desk.told("put a 0 :", "put b 0 :", "put c 0 :")
        self.assertEqual([desk.undo(), desk.undo(), desk.redo(), desk.redo()],
                         ["put c 0 :", "put b 0 :", "put b 0 :", "put c 0 :"])
        refuses(self, Nothing(), desk.redo)
        self.assertEqual([desk.undo(), desk.undo(), desk.undo()], ["put c 0 :", "put b 0 :", "put a 0 :"])
        refuses(self, Nothing(), desk.undo)
        desk.tried("put x 0 :", "names")
        self.assertEqual(type(refused(desk.told, "put x 0 :", "put x 0 :")), BadLine)
        desk.told("names")
        self.assertEqual([desk.redo(), desk.redo(), desk.redo()], ["put a 0 :", "put b 0 :", "put c 0 :"])

    def test_twins(self):
        desk = Desk()
        desk.told("put a 0 1 : +0 +0", "over 0 1", "tell held 0 1", "tell free 0 1")
        desk.undo()
        twin = desk.twin()
        self.assertEqual(state(twin), state(desk))
        self.assertEqual(twin.redo(), "tell free 0 1")
        self.assertEqual((len(twin), len(desk)), (2, 1))
        self.assertEqual(desk.redo(), "tell free 0 1")
        twin.told("drop a", "put b 2 :")
        self.assertEqual(("a" in desk, "b" in desk, "a" in twin, "b" in twin), (True, False, False, True))
        desk.undo()
        desk.undo()
        self.assertEqual((len(desk), len(twin)), (0, 2))
        self.assertEqual([twin.undo(), twin.undo()], ["put b 2 :", "drop a"])
        self.assertEqual(twin.told("facts", "names"), ("2", "a"))

    def test_names_and_equal_desks(self):
        desk, other = Desk(), Desk()
        desk.told("put a 0 1 : +0 +0", "put b1 2 :", "over 0 1", "tell held 0 1", "tell free 0 1", "strike 1")
        other.told("put a 0 1 : +0 +0", "put x 0 :", "put b1 2 :", "drop x", "over 2", "over 0 1", "tell held 0 1")
        self.assertTrue(desk == other and not desk != other and desk.story != other.story)
        self.assertEqual(["a" in desk, "b1" in desk, "x" in desk, "" in desk, "b" in desk], [True, True, False, False, False])
        for value in ODD + GREAT + (b"a", ("a",), ["a"]):
            self.assertIs(value in desk, False)
        other("strike 0")
        for wrong in (other, Desk(), desk.loft, desk.story, None):
            self.assertIs(desk == wrong, False)
            self.assertIs(desk != wrong, True)
        self.assertEqual((len(desk), len(other), desk.loft.facts), (1, 0, (Held([0, 1]),)))

    def test_facts_that_were_struck_leave_the_answers(self):
        one, other = Desk(), Desk()
        one.told("over 0 1 2", "tell held 0 1", "tell free 0 1 2", "tell free 1 2", "strike 1")
        other.told("over 0 1 2", "tell held 0 1", "tell free 1 2")
        for line in ("facts", "fact 0", "fact 1", "book", "word held 0 1 2", "word held 1 2", "try free 0 1", "clash", "lot"):
            self.assertEqual(one(line), other(line))
        self.assertEqual(one, other)
        one("over 0 1 2")
        self.assertEqual((len(one), one("facts"), one("word held 0 1")), (0, "0", "either"))

    def test_twelve_and_thirteen_facts(self):
        desk = Desk()
        desk.told("over 0 1", *["tell held 0 1"] * 12)
        refuses(self, TooMany("facts", 12), desk, "tell held 0 1")
        refuses(self, TooMany("facts", 12), desk, "try held 0 1")
        self.assertEqual((len(desk), desk("facts"), desk("fact 11")), (12, "12", "held 0 1"))
        desk("strike 4")
        self.assertEqual(desk("tell held 0 1"), "11")

    def test_long_names_and_numbers(self):
        desk = Desk()
        desk.told("put a 0 1 : +0 +0", "put abcdefghij12 0 1 : -0 -0")
        self.assertEqual(desk("names"), "a abcdefghij12")
        great = "9" * 60
        self.assertEqual(desk(f"times a -{great}"), f"0 1 : 1 0 = -{great}")
        self.assertEqual(desk(f"root a {great}"), "noroot 1 0")
        refuses(self, BadText(0, 2), desk, f"times a {great}0")
        refuses(self, BadText(0, 1), desk, "put abcdefghij123 0 :")

    def test_bad_lines_keep_the_error(self):
        desk = Desk()
        desk("put a 0 1 :")
        for lines, index, error in ((("names", "show b"), 1, NoName("b")), (("put a 0 :",), 0, Twice("a")),
                                    (("names", "names", "reading a 3"), 2, NoCord(3)), (("book",), 0, Nothing()),
                                    (("over 0", "strike 0"), 1, NoFact(0)), (("put b 2 :", "alike a b"), 1, Misfit("lot"))):
            caught = refused(desk.told, *lines)
            self.assertEqual((type(caught), caught.line), (BadLine, index))
            self.assertEqual((type(caught.error), fields(caught.error)), (type(error), fields(error)))
        self.assertEqual((desk.loft, desk.story), (Loft([("a", Tangle([0, 1]))]), ("put a 0 1 :",)))


if __name__ == "__main__":
    unittest.main()
