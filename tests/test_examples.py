"""Every example of the sections that have landed, with its answer or its error as printed there."""

import importlib
import os
import unittest

from ghostcords.errors import CordError

HERE = os.path.dirname(os.path.abspath(__file__))


def sections():
    """Pairs of a module's name and its list of (code, expected) in the order of the file."""
    with open(os.path.join(HERE, "examples.txt"), encoding="ascii") as file:
        lines = file.read().splitlines()
    found = []
    for line in lines:
        if line.startswith("## "):
            found.append((line[3:], []))
        elif line.startswith(">>> "):
            found[-1][1].append([line[4:], ""])
        elif line:
            found[-1][1][-1][1] = line
    return found


def error_fields(error):
    """The fields of an error, an error among them as its class and its own fields."""
    fields = {key: value for key, value in vars(error).items() if not key.startswith("_")}
    return {key: (type(value), error_fields(value)) if isinstance(value, CordError) else value
            for key, value in fields.items()}


class Examples(unittest.TestCase):
    def run_one(self, code, expected, names):
        if not expected:
            exec(code, names)
            return
        if not expected.startswith("raises "):
            result = eval(code, names)
            self.assertEqual(repr(result), repr(eval(expected, names)), code)
            return
        wanted = eval(expected[len("raises "):], names)
        with self.assertRaises(CordError) as caught:
            eval(code, names)
        self.assertIs(type(caught.exception), type(wanted), code)
        self.assertEqual(error_fields(caught.exception), error_fields(wanted), code)

    def test_examples(self):
        errors = importlib.import_module("ghostcords.errors")
        names = dict(vars(errors))
        count = 0
        for module, examples in sections():
            names.update({key: value for key, value in vars(importlib.import_module("ghostcords." + module)).items()
                          if not key.startswith("__")})
            for code, expected in examples:
                with self.subTest(module=module, code=code):
                    self.run_one(code, expected, names)
                    count += 1
        self.assertEqual(count, 156)


if __name__ == "__main__":
    unittest.main()
