import re
import unittest

from ghostcords.desk_lines import ASKS, DEEDS, read_line
from ghostcords.errors import BadText
from ghostcords.forms import Form
from ghostcords.sayings import Falls, Free, Held, Least, Spare
from ghostcords.tangles import Tangle
from helpers import GREAT, ODD, refuses

LONG = "1" + "0" * 59
BAD = {
    "name": ("", "A", "1a", "a_", "a-b", "abcdefghijklm", "+0", "0", "\u00e9", "a\n", "-", "..", ":"),
    "cord": ("", "5", "-1", "+0", "00", "a", "10", "1.0", "-0", ".."),
    "number": ("", "-1", "+1", "01", "a", LONG + "0", "-0", "1.0", "1\n"),
    "integer": ("", "+1", "01", "-01", "-0", "--1", "a", LONG + "0", "-" + LONG + "0", "1-"),
    "slide": ("", "Far", "up", "0", "fa", "undo1", "a"),
}
# Each right line without a text, the kinds of its words behind the first one, and whether there may be more of the last.
PLAIN = (
    ("below c a b", ("name", "name", "name"), False),
    ("beside zz9 a b", ("name", "name", "name"), False),
    ("back c a", ("name", "name"), False),
    ("slide a far 0", ("name", "slide", "number"), False),
    ("slide a undo 12", ("name", "slide", "number"), False),
    ("slide a three " + LONG, ("name", "slide", "number"), False),
    ("cut a 0", ("name", "cord"), True),
    ("cut a 4 0 0 2", ("name", "cord", "cord", "cord", "cord"), True),
    ("drop a", ("name",), False),
    ("strike 0", ("number",), True),
    ("strike 3 0 3 " + LONG, ("number",) * 4, True),
    ("names", (), False),
    ("show a", ("name",), False),
    ("reading a 3", ("name", "cord"), False),
    ("form a", ("name",), False),
    ("slides a", ("name",), False),
    ("alike a b", ("name", "name"), False),
    ("past a b", ("name", "name"), False),
    ("held a", ("name",), False),
    ("loose a", ("name",), False),
    ("spare a", ("name",), False),
    ("fewest a", ("name",), False),
    ("times a -3", ("name", "integer"), False),
    ("times a 0", ("name", "integer"), False),
    ("times a -" + LONG, ("name", "integer"), False),
    ("root a 2", ("name", "integer"), False),
    ("when a b", ("name", "name"), False),
    ("whole a", ("name",), True),
    ("whole a b a abcdefghijkl", ("name",) * 4, True),
    ("rings a", ("name",), False),
    ("passes a", ("name",), False),
    ("lot", (), False),
    ("facts", (), False),
    ("fact 0", ("number",), False),
    ("book", (), False),
    ("clash", (), False),
    ("fails a", ("name",), False),
)
WORDS = {"name": "b2", "cord": "1", "number": "7", "integer": "7", "slide": "far"}

FITS = {"name": "[a-z][a-z0-9]{0,11}", "cord": "[0-4]", "number": "0|[1-9][0-9]{0,59}", "integer": "0|-?[1-9][0-9]{0,59}",
        "slide": "far|undo|three"}


def first_wrong(words, kinds, more):
    """The index of the first word behind the first one that cannot stand, or is missing; None if none is."""
    for at, kind in enumerate(kinds, 1):
        if at >= len(words) or not re.fullmatch(FITS[kind], words[at]):
            return at
    for at in range(len(kinds) + 1, len(words)):
        if not more or not re.fullmatch(FITS[kinds[-1]], words[at]):
            return at
    return None


class Lines(unittest.TestCase):
    def test_tables(self):
        self.assertEqual(DEEDS, ("put", "build", "below", "beside", "back", "slide", "cut", "drop", "over", "tell", "strike"))
        self.assertEqual(ASKS, tuple("""names show reading form slides alike past held loose spare fewest times root when
            whole rings passes lot facts fact book try word clash fails""".split()))
        self.assertEqual((len(DEEDS), len(ASKS), len(set(DEEDS + ASKS))), (11, 25, 36))
        known = {line.split()[0] for line, _, _ in PLAIN} | {"put", "build", "over", "tell", "try", "word"}
        self.assertEqual(known, set(DEEDS + ASKS))

    def test_right_lines(self):
        for line, kinds, _ in PLAIN:
            words = line.split(" ")
            wanted = [int(word) if kind in ("cord", "number", "integer") else word for word, kind in zip(words[1:], kinds)]
            told = read_line(line=line)
            self.assertEqual(told, (words[0], *wanted))
            self.assertEqual([type(value) for value in told[1:]], [type(value) for value in wanted])

    def test_bent_lines(self):
        for line, kinds, more in PLAIN:
            words = line.split(" ")
            for at, kind in enumerate(kinds, 1):
                for bad in BAD[kind]:
                    refuses(self, BadText(0, at), read_line, " ".join(words[:at] + [bad] + words[at + 1:]))
                    refuses(self, BadText(0, at), read_line, " ".join(words[:at] + [bad]))
            for many in range(1, len(words) if not more else 2):
                if many < len(words):
                    refuses(self, BadText(0, many), read_line, " ".join(words[:many]))
            for extra in ("", "a", "0", ".."):
                if not more:
                    refuses(self, BadText(0, len(words)), read_line, line + " " + extra)
            if more:
                self.assertEqual(len(read_line(line + " " + WORDS[kinds[-1]])), len(words) + 1)
                for bad in BAD[kinds[-1]]:
                    refuses(self, BadText(0, len(words)), read_line, line + " " + bad)
            refuses(self, BadText(0, 0), read_line, " " + line)
            refuses(self, BadText(0, 0), read_line, line.upper())
            refuses(self, BadText(0, 0), read_line, "x" + line)

    def test_words_left_out_put_in_and_exchanged(self):
        for line, kinds, more in PLAIN:
            words = line.split(" ")
            fewest = kinds[:1] if more and len(set(kinds)) == 1 else kinds[:2] if more else kinds
            bent = [words[:at] + words[at + 1:] for at in range(1, len(words))]
            bent += [words[:at] + [extra] + words[at:] for at in range(1, len(words) + 1)
                     for extra in ("", "a", "0", "4", "5", "-1", "far", "b2", "..", ":", "held")]
            bent += [words[:at] + [words[at + 1], words[at]] + words[at + 2:] for at in range(1, len(words) - 1)]
            for told in bent:
                wrong = first_wrong(told, fewest, more)
                if wrong is None:
                    self.assertEqual([str(value) for value in read_line(" ".join(told))], told)
                else:
                    refuses(self, BadText(0, wrong), read_line, " ".join(told))

    def test_no_lines(self):
        for value in ODD + GREAT + ("", " ", "a", "puts", "put_", "PUT", "\nnames", b"names", ["names"], ("put", "a"), "names\n",
                                    "names\tx", "."):
            if value != "word":
                refuses(self, BadText(0, 0), read_line, value)

    def test_lots(self):
        self.assertEqual([read_line(line) for line in ("over 3", "over 0 1 2 3 4", "over 1 4")],
                         [("over", 3), ("over", 0, 1, 2, 3, 4), ("over", 1, 4)])
        for line, at in (("over", 1), ("over ", 1), ("over 5", 1), ("over a", 1), ("over -1", 1), ("over 0 0", 2),
                         ("over 2 1", 2), ("over 0 1 2 3 4 4", 6), ("over 0 1 2 3 4 5", 6), ("over 4 5", 2), ("over 0  1", 2),
                         ("over 0 ", 2), ("over 0 4 3", 3), ("over 00", 1), ("over : 1", 1), ("over 0 1 :", 3)):
            refuses(self, BadText(0, at), read_line, line)

    def test_tangles(self):
        self.assertEqual(read_line("put a 0 1 : +0 -0"), ("put", "a", Tangle([0, 1], [(0, 1), (0, -1)])))
        self.assertEqual(read_line("put a 3 :"), ("put", "a", Tangle([3])))
        for line, at in (("put", 1), ("put a", 2), ("put a ", 2), ("put A 0 :", 1), ("put a 0", 3), ("put a 0 1", 4),
                         ("put a :", 2), ("put a 0 0 :", 3), ("put a 0 1 : +1", 5), ("put a 0 1 : +0", 5),
                         ("put a 0 1 : +0 +0 +0", 7), ("put a 0 1 : +0 x +0", 6), ("put a 0 1 : ", 5), ("put a 0 : +0", 4),
                         ("put a 1 0 :", 3), ("put a 0 1 2 : +0 +1", 7), ("put 0 1 :", 1), ("put a b 0 :", 2),
                         ("put a 0 1 : +0 +0 : +0", 7)):
            refuses(self, BadText(0, at), read_line, line)
        long = "put a 0 1 :" + " +0" * 2000
        self.assertEqual(len(read_line(long)[2]), 2000)
        refuses(self, BadText(0, 2005), read_line, long + " +0 +0")

    def test_forms(self):
        form = Form([0, 1, 2], [((1, (0,)), -4), ((2, (0, 1)), int(LONG))])
        self.assertEqual(read_line("build b 0 1 2 : 1 0 = -4 / 2 0 1 = " + LONG), ("build", "b", form))
        self.assertEqual(read_line("build b :"), ("build", "b", Form([])))
        for line, at in (("build", 1), ("build b", 2), ("build b 0 1", 4), ("build 0 1 :", 1), ("build b 0 1 : 1 0 = 0", 8),
                         ("build b 0 1 : 1 0 = 1 /", 9), ("build b 0 1 : 1 0 =", 8), ("build b 0 1 : 1 0", 7),
                         ("build b 0 1 : 0 1 = 1", 5), ("build b 0 1 2 : 2 0 = 1 / 1 0 = 1", 11), ("build b 0 1 : ", 5),
                         ("build b 0 1 2 : 1 0 = 1 /", 11), ("build b 0 1 : 1 0 = +1", 8), ("build b 0 1 : 1 0 = " + LONG + "0", 8),
                         ("build b 0 1 2 : 2 1 0 = 1", 8), ("build b 5 :", 2)):
            refuses(self, BadText(0, at), read_line, line)

    def test_sayings(self):
        for word in ("tell", "try", "word"):
            for text, saying in (("held 0 1", Held([0, 1])), ("free 1 3 4", Free([1, 3, 4])), ("least 2 4", Least([2, 4])),
                                 ("spare 3", Spare(3)), ("falls 0", Falls(0)), ("falls 5", Falls(5))):
                told = read_line(f"{word} {text}")
                self.assertEqual((told[0], len(told), told[1]), (word, 2, saying))
                self.assertIs(type(told[1]), type(saying))
            for line, at in (("", 1), (" ", 1), (" Held 0 1", 1), (" held", 2), (" held 0", 3), (" held 0 0", 3), (" held 1 0", 3),
                             (" held 0 5", 3), (" held 0 1 ", 4), (" free x", 2), (" spare", 2), (" spare 5", 2), (" spare 1 2", 3),
                             (" falls", 2), (" falls 6", 2), (" falls 1 1", 3), (" falls -1", 2), (" kept", 1), (" 0 1", 1),
                             (" held 0 1 2 3 4 4", 7)):
                refuses(self, BadText(0, at), read_line, word + line)


if __name__ == "__main__":
    unittest.main()
