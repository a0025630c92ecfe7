import unittest

from ghostcords.texts import cord_of, integer_of, signed_of


class Words(unittest.TestCase):
    def test_integers(self):
        for value in (0, 1, -1, 10, 907, -10 ** 59, 10 ** 60 - 1, 1 - 10 ** 60):
            self.assertEqual(integer_of(str(value)), value)
        for word in ("", "-", "--1", "+1", "-0", "00", "01", "-01", "1-", " 1", "1.0", "1e3", "0x1", "\u0661", "1_0",
                     str(10 ** 60), str(-10 ** 60)):
            self.assertIsNone(integer_of(word), word)

    def test_cords_and_signs(self):
        self.assertEqual([cord_of(word) for word in ("0", "4", "5", "", "01", "-1", "+1", "\u0661")], [0, 4] + [None] * 6)
        self.assertEqual([signed_of("+4", 4), signed_of("-0", 0), signed_of("+4", 3), signed_of("+0", -1)],
                         [(4, 1), (0, -1), None, None])
        for word in ("", "+", "-", "0", "+00", "++0", "+5", "=0"):
            self.assertIsNone(signed_of(word, 4), word)


if __name__ == "__main__":
    unittest.main()
