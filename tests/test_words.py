import unittest

from lategone.words import is_name, is_number, place_name


class Words(unittest.TestCase):
    def test_names(self):
        for word in ("a", "z", "abcdefgh", "heap", "zzzzzzzz"):
            self.assertIs(is_name(word), True, word)
        for word in ("", "abcdefghi", "A", "aB", "a1", "1", "a_b", "-", "a ", " a", "a\n", "\u00e4", "`", "{"):
            self.assertIs(is_name(word), False, word)

    def test_numbers(self):
        for word in ("0", "1", "9", "10", "-1", "-10", "9" * 30, "-" + "9" * 30):
            self.assertIs(is_number(word), True, word)
        for word in ("", "-", "-0", "00", "01", "-01", "+1", "--1", "1-", "1" * 31, "-" + "1" * 31, "0" * 30, "1_0",
                     "1.0", "1e3", " 1", "1 ", "1\n", "a", "0x1", "\u0661", "\u00b2", "/", ":"):
            self.assertIs(is_number(word), False, word)

    def test_names_of_places(self):
        names = [place_name(place) for place in range(2000)]
        self.assertEqual(len(set(names)), len(names))
        for name in names:
            self.assertTrue(is_name(name))


if __name__ == "__main__":
    unittest.main()
