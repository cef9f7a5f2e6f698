import string
import unittest

from byexample.signs import is_text, kind_of

KIND_BY_SIGN = {}
KIND_BY_SIGN.update({sign: "small" for sign in string.ascii_lowercase})
KIND_BY_SIGN.update({sign: "great" for sign in string.ascii_uppercase})
KIND_BY_SIGN.update({sign: "figure" for sign in string.digits})
KIND_BY_SIGN.update({sign: "mark" for sign in (" ", "-", ".", ",", "/")})

ASCII_NO_SIGNS = [chr(code) for code in range(128) if chr(code) not in KIND_BY_SIGN]
# Letters, figures and marks in the wider sense, a high one and half of a pair among them.
OTHER_NO_SIGNS = [
    "\x80", "\xa0", "\xaa", "\xb2", "\xdf", "\xe9", "\xc9", "\u0131", "\u0130", "\u017f",
    "\u0660", "\u0663", "\u2010", "\u2028", "\u3000", "\uff11", "\uff21", "\ud800", "\U0001f600",
]


class KindOfTest(unittest.TestCase):
    def test_there_are_sixty_seven_signs(self):
        self.assertEqual(len(KIND_BY_SIGN), 67)

    def test_kind_of_each_sign(self):
        for sign, kind in KIND_BY_SIGN.items():
            with self.subTest(sign):
                self.assertEqual(kind_of(sign), kind)
                self.assertEqual(kind_of(sign), kind)


class IsTextTest(unittest.TestCase):
    def test_each_sign_by_itself_is_a_text(self):
        for sign in KIND_BY_SIGN:
            with self.subTest(sign):
                self.assertIs(is_text(sign), True)

    def test_texts(self):
        for text in ("", " ", "Ada Byron, 1815", "and/or", "-.,/ ", "a  b", " a ", "0" * 24, "aB3-" * 6):
            with self.subTest(text):
                self.assertIs(is_text(text), True)

    def test_every_length_up_to_twenty_four(self):
        for length in range(25):
            with self.subTest(length):
                self.assertIs(is_text("x" * length), True)
                self.assertIs(is_text(" " * length), True)

    def test_longer_ones_are_no_texts(self):
        for length in (25, 26, 48, 72, 1000, 1000000):
            with self.subTest(length):
                self.assertIs(is_text("x" * length), False)
                self.assertIs(is_text(" " * length), False)

    def test_one_thing_that_is_no_sign(self):
        self.assertEqual(len(ASCII_NO_SIGNS), 128 - 67)
        for other in ASCII_NO_SIGNS + OTHER_NO_SIGNS:
            for thing in (other, other + "ab C", "ab" + other + "1.", "ab, Z9" + other, "x" * 23 + other):
                with self.subTest(repr(thing)):
                    self.assertIs(is_text(thing), False)

    def test_line_ends_and_tabs(self):
        for thing in ("\n", "\t", "\r", "ab\n", "\nab", "a\nb", "ab\t", "\tab", "a\tb", "ab\r\n"):
            with self.subTest(repr(thing)):
                self.assertIs(is_text(thing), False)

    def test_things_of_other_kinds(self):
        things = (
            0, 1, -1, 10 ** 5000, True, False, None, 1.5, float("nan"), [], ["a"], ["a", "b"], (), ("a",),
            ("a", "b"), {}, {"a": "b"}, {"a"}, frozenset(), b"", b"ab", bytearray(b"ab"), range(3), object(), str, len,
        )
        for thing in things:
            with self.subTest(repr(thing) if thing != 10 ** 5000 else "very great"):
                self.assertIs(is_text(thing), False)

    def test_what_is_handed_in_stays_as_it_is(self):
        listed = ["a", ["b"]]
        mapped = {"a": ["b"]}
        self.assertIs(is_text(listed), False)
        self.assertIs(is_text(mapped), False)
        self.assertEqual(listed, ["a", ["b"]])
        self.assertEqual(mapped, {"a": ["b"]})

    def test_the_same_asked_again_is_answered_the_same(self):
        for thing, told in (("ab", True), ("a_b", False), (["a"], False)):
            for again in range(3):
                self.assertIs(is_text(thing), told)


if __name__ == "__main__":
    unittest.main()
