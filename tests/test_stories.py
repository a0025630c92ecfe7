import unittest

from ghostcords.desk import Desk
from ghostcords.desk_lines import ASKS
from ghostcords.errors import BadDesk, BadLine, BadText, CordError, NoName, Nothing, Twice
from ghostcords.lofts import Loft
from ghostcords.stories import merged, parting, replay
from helpers import GREAT, ODD, fields, refuses, seeded

DEED_LINES = ("put a 0 1 2 : +0 +0", "put b 0 1 2 : -1 +0 +0 +1", "put a 2 :", "below c a b", "back d a", "drop a", "drop b",
              "over 0 1 2", "tell held 0 1", "tell free 0 1", "strike 0", "slide c undo 3", "cut b 1", "over 0 1", "build e 0 1 : 1 0 = 3")


def random_desk(chance, many, desk=None):
    """A desk, or this one, that is told many lines, some of which it refuses or takes back."""
    desk = Desk() if desk is None else desk
    for _ in range(many):
        try:
            if chance.random() < 0.15:
                desk.undo()
            else:
                desk(chance.choice(DEED_LINES))
        except CordError:
            continue
    return desk


class Replay(unittest.TestCase):
    def test_stories_played_back(self):
        for seed in range(20):
            desk = random_desk(seeded(seed), 15)
            again = replay(lines=desk.story)
            self.assertEqual((again, again.story, len(again)), (desk, desk.story, len(desk)))
            self.assertEqual(replay(list(desk.story)).loft, desk.loft)
            refuses(self, Nothing(), again.redo)
            while again.story:
                again.undo()
            self.assertEqual(again, Desk())
        self.assertEqual((replay([]).loft, replay(()).story), (Loft(), ()))

    def test_refusals(self):
        for value in ODD + GREAT + (0, "put a 0 :", [None], ["put a 0 :", 1], [["put a 0 :"]], {"put a 0 :": 1}, b"a", [b"a"], Desk()):
            refuses(self, BadDesk("lines"), replay, value)
        for lines, index, error in ((["put a 0 :", "put a 1 :"], 1, Twice("a")), (["drop a"], 0, NoName("a")),
                                    (["put a 0 :", "drop"], 1, BadText(0, 1)), (["x"], 0, BadText(0, 0)), ([""], 0, BadText(0, 0))):
            self.refused(lines, index, error)
        for word in ASKS:
            for rest in ("", " a", " a a", " 0", " x y z"):
                self.refused(["put a 0 1 :", word + rest], 1, BadText(0, 0))

    def refused(self, lines, index, error):
        with self.assertRaises(BadLine) as caught:
            replay(lines)
        self.assertEqual(caught.exception.line, index)
        self.assertEqual((type(caught.exception.error), fields(caught.exception.error)), (type(error), fields(error)))


class Merged(unittest.TestCase):
    def check(self, one, other):
        many = 0
        while many < len(one.story) and many < len(other.story) and one.story[many] == other.story[many]:
            many += 1
        self.assertEqual((parting(one, other), parting(one=other, other=one)), (many, many))
        before = (one.story, other.story)
        desk, refused = merged(one=one, other=other)
        self.assertEqual((type(desk), type(refused), (one.story, other.story)), (Desk, tuple, before))
        wanted, wrong = list(one.story), []
        for index in range(many, len(other.story)):
            try:
                replay(wanted + [other.story[index]])
                wanted.append(other.story[index])
            except BadLine:
                wrong.append(index)
        self.assertEqual((desk.story, refused), (tuple(wanted), tuple(wrong)))
        self.assertEqual(desk, replay(wanted))
        refuses(self, Nothing(), desk.redo)
        return refused

    def test_random_desks(self):
        found = set()
        for seed in range(40):
            chance = seeded(seed)
            desk = random_desk(chance, chance.randint(0, 8))
            one, other = random_desk(chance, 6, desk.twin()), random_desk(chance, 6, desk.twin())
            found.add(bool(self.check(one, other)))
            self.check(other, one)
            self.check(one, one)
            self.check(Desk(), one)
            self.check(one, Desk())
        self.assertEqual(found, {True, False})

    def test_lines_read_by_what_is_kept_then(self):
        one, other = Desk(), Desk()
        one.told("put a 0 1 : +0 +0", "over 0 1")
        other.told("put b 0 1 : -0 -0", "below c b b", "put a 2 :", "back d a", "drop c")
        desk, refused = merged(one, other)
        self.assertEqual((refused, desk("names"), desk("show d")), ((2,), "a b d", "0 1 : -0 -0"))
        one.undo()
        self.assertEqual(parting(one, other), 0)
        self.assertIs(desk == one, False)

    def test_neither_desk_changes(self):
        one, other = Desk(), Desk()
        one.told("put a 0 :", "put b 0 :")
        other.told("put a 0 :", "put c 0 :")
        one.undo()
        other.undo()
        desk, _ = merged(one, other)
        desk("drop a")
        self.assertEqual((one.redo(), other.redo(), one("names"), other("names")), ("put b 0 :", "put c 0 :", "a b", "a c"))

    def test_refusals(self):
        for call in (parting, merged):
            for value in ODD + GREAT + (0, Loft(), Desk().story, "names"):
                refuses(self, BadDesk("one"), call, value, "x")
                refuses(self, BadDesk("other"), call, Desk(), value)


if __name__ == "__main__":
    unittest.main()
