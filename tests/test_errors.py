import unittest

from ghostcords import errors
from ghostcords.errors import CordError
from helpers import NO_INTEGERS

PARTS = """BadRow BadLot BadWord BadReading BadTangle BadForm BadFamily BadSaying BadBook BadPattern BadPicture BadRing
BadNumber BadPaper BadDesk Misfit""".split()
FIELDS = {"Missing": ("value",), "Twice": ("value",), "Impossible": ("paper",), "TooMany": ("what", "most"),
          "Nothing": (), "BadText": ("line", "word"), "BadLine": ("line", "error")}
FIELDS.update({name: ("part",) for name in PARTS})
BELOW = {"NoCord": ("value",), "NoFact": ("value",), "NoName": ("value",)}


class Errors(unittest.TestCase):
    def check_fields(self, made, names, values):
        for name, value in zip(names, values):
            self.assertIs(getattr(made, name), value)
        self.assertIsInstance(str(made), str)

    def test_each_keeps_its_fields(self):
        for name, fields in {**FIELDS, **BELOW}.items():
            kind = getattr(errors, name)
            for value in NO_INTEGERS + (10 ** 6000, "x" * 1000, [[1], [2]], errors.Nothing()):
                values = (value, [value])[:len(fields)]
                self.check_fields(kind(*values), fields, values)
                self.check_fields(kind(**dict(zip(fields, values))), fields, values)

    def test_bases(self):
        self.assertEqual(CordError.__bases__, (ValueError,))
        for name in FIELDS:
            self.assertEqual(getattr(errors, name).__bases__, (CordError,), name)
        for name in BELOW:
            self.assertEqual(getattr(errors, name).__bases__, (errors.Missing,), name)

    def test_only_what_is_passed_can_be_passed(self):
        for name, fields in {**FIELDS, **BELOW}.items():
            with self.assertRaises(TypeError):
                getattr(errors, name)(*[0] * (len(fields) + 1))

    def test_can_be_raised(self):
        with self.assertRaises(ValueError):
            raise errors.NoCord([1])
        with self.assertRaises(CordError):
            raise CordError()


if __name__ == "__main__":
    unittest.main()
