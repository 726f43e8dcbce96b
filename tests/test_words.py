"""Names, atoms and values as they are written."""

import itertools
import string
import unittest

from stopglass.words import WIDE, atom_of, is_name

TAKEN = ("fn", "in", "new", "get", "put", "call", "out", "if", "while", "else", "end", "back")
WRONG_SIGNS = [chr(k) for k in range(0, 128) if chr(k) not in string.ascii_lowercase]
OTHER_SCRIPTS = ["\u00e9", "\u00df", "\u03b1", "\u0430", "\uff41", "\u0663", "\u00b2", "\uff11", "\u00a0", "\u2028"]


class WideTest(unittest.TestCase):
    def test_wide(self):
        self.assertEqual(WIDE, 2 ** 48)
        self.assertIs(type(WIDE), int)


class IsNameTest(unittest.TestCase):
    def test_one_to_eight_letters(self):
        for letter in string.ascii_lowercase:
            for length in range(1, 9):
                self.assertIs(is_name(letter * length), True)
        self.assertIs(is_name("abcdefgh"), True)
        self.assertIs(is_name("stuvwxyz"), True)

    def test_none_and_nine_and_more(self):
        self.assertIs(is_name(""), False)
        self.assertIs(is_name("abcdefghi"), False)
        self.assertIs(is_name("a" * 9), False)
        self.assertIs(is_name("a" * 10000), False)

    def test_taken_words_bare(self):
        for word in TAKEN:
            self.assertIs(is_name(word), False, word)

    def test_taken_words_with_a_letter_more_or_less(self):
        for word in TAKEN:
            for letter in string.ascii_lowercase:
                self.assertIs(is_name(letter + word), True)
                self.assertIs(is_name(word + letter), True)
            self.assertIs(is_name(word[1:]), True)
            self.assertIs(is_name(word + word), len(word) <= 4)

    def test_words_of_other_use_are_names(self):
        for word in ("copy", "op", "go", "wait", "box", "num", "for", "def", "none", "true", "and"):
            self.assertIs(is_name(word), True, word)

    def test_no_other_two_letter_words_are_taken(self):
        for pair in itertools.product(string.ascii_lowercase, repeat=2):
            word = "".join(pair)
            self.assertIs(is_name(word), word not in ("fn", "in", "if"))

    def test_wrong_signs_within_ahead_and_behind(self):
        for sign in WRONG_SIGNS + OTHER_SCRIPTS:
            for text in (sign, sign + "abc", "ab" + sign + "c", "abc" + sign, "abcdefg" + sign, sign + "abcdefg"):
                self.assertIs(is_name(text), False, repr(text))
            for word in TAKEN:
                self.assertIs(is_name(word + sign), False)
                self.assertIs(is_name(sign + word), False)

    def test_capitals(self):
        for text in ("A", "Abc", "abC", "ABC", "If", "END", "Z"):
            self.assertIs(is_name(text), False)


class AtomOfTest(unittest.TestCase):
    def value(self, word, number):
        told = atom_of(word)
        self.assertEqual(told, number)
        self.assertIs(type(told), int)

    def test_a_name_is_itself(self):
        for word in ("a", "z", "abcdefgh", "ifs", "fnn", "copy", "xin"):
            self.assertEqual(atom_of(word), word)
            self.assertIs(type(atom_of(word)), str)

    def test_what_is_no_name_is_none(self):
        for word in TAKEN + ("", "abcdefghi", "A", "aB", "a_", "a b", "a\n", "\na", " a", "a ", "=", "+", "-", "_"):
            self.assertIsNone(atom_of(word), repr(word))

    def test_figures(self):
        self.value("0", 0)
        self.value("1", 1)
        self.value("9", 9)
        self.value("10", 10)
        self.value("100", 100)
        self.value("1234567890", 1234567890)
        for number in range(1200):
            self.value(str(number), number)

    def test_noughts_ahead(self):
        for word in ("00", "01", "007", "000", "0" * 15, "0" * 14 + "1", "0" * 16, "0" * 40, "010"):
            self.assertIsNone(atom_of(word), word)

    def test_around_wide(self):
        self.value(str(2 ** 48 - 1), 2 ** 48 - 1)
        self.value("281474976710655", 2 ** 48 - 1)
        self.value("99999999999999", 99999999999999)
        self.value("100000000000000", 100000000000000)
        for number in (2 ** 48, 2 ** 48 + 1, 999999999999999, 10 ** 15, 2 ** 64):
            self.assertIsNone(atom_of(str(number)))

    def test_many_figures(self):
        for length in (16, 40, 4300, 4301, 10000):
            self.assertIsNone(atom_of("1" * length))

    def test_signs_about_figures(self):
        for word in ("+1", "-1", "-0", "+0", " 1", "1 ", "1_0", "1.0", "1.", "1e1", "1,0", "0x1", "0b1", "1\n", "\n1",
                     "1\t", "1 0", "1\n0", "1+", "#1", "1/1"):
            self.assertIsNone(atom_of(word), repr(word))
        for sign in WRONG_SIGNS + OTHER_SCRIPTS:
            if sign not in string.digits:
                for word in (sign, sign + "12", "1" + sign + "2", "12" + sign):
                    self.assertIsNone(atom_of(word), repr(word))

    def test_figures_and_letters_mixed(self):
        for word in ("a1", "1a", "a1b", "1a1", "0a", "a0", "if1", "1if"):
            self.assertIsNone(atom_of(word), word)


if __name__ == "__main__":
    unittest.main()
