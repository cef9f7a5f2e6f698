import unittest

from byexample.pieces import answer_of, piece_price, row_answer, row_price

BEGIN = ("any", 1, "ahead")
END = ("any", -1, "behind")
DEEDS = ("copy", "raise", "sink")
TEXT = "Ada Byron, 1815-12/10"


class PiecesTest(unittest.TestCase):
    def assert_answer(self, piece, text, told):
        with self.subTest(piece=piece, text=text):
            for again in range(2):
                self.assertEqual(answer_of(piece, text), told)
                self.assertIs(type(answer_of(piece, text)), type(told))

    def assert_each_deed(self, start, end, text, copied, raised, sunk):
        self.assert_answer(("copy", start, end), text, copied)
        self.assert_answer(("raise", start, end), text, raised)
        self.assert_answer(("sink", start, end), text, sunk)

    def assert_no_deed_answers(self, start, end, text):
        self.assert_each_deed(start, end, text, None, None, None)


class AnswerOfTest(PiecesTest):
    def test_a_word_answers_each_text_by_itself(self):
        for word in ("a", " ", "Z", "0", "/", "Dr. Who ", "abcdefgh", "any"):
            for text in ("", "a", TEXT, "x" * 24):
                self.assert_answer(("word", word), text, word)

    def test_the_whole_text(self):
        self.assert_each_deed(
            BEGIN, END, TEXT, "Ada Byron, 1815-12/10", "ADA BYRON, 1815-12/10", "ada byron, 1815-12/10"
        )

    def test_stretches_between_two_places(self):
        self.assert_each_deed(("great", 1, "ahead"), ("mark", 1, "ahead"), TEXT, "Ada", "ADA", "ada")
        self.assert_each_deed(("great", 2, "ahead"), ("small", -1, "behind"), TEXT, "Byron", "BYRON", "byron")
        self.assert_each_deed(("mark", 1, "behind"), ("mark", 2, "behind"), TEXT, "Byron,", "BYRON,", "byron,")
        self.assert_each_deed(("figure", 1, "ahead"), ("mark", -2, "ahead"), TEXT, "1815", "1815", "1815")
        self.assert_each_deed(("small", -2, "ahead"), ("figure", 2, "behind"), TEXT, "on, 18", "ON, 18", "on, 18")
        self.assert_each_deed(("mark", -1, "behind"), END, TEXT, "10", "10", "10")
        self.assert_each_deed(("any", 2, "ahead"), ("any", -2, "behind"), "aBcD", "Bc", "BC", "bc")

    def test_a_stretch_of_one_sign(self):
        self.assert_each_deed(("great", 1, "ahead"), ("great", 1, "behind"), "xYz", "Y", "Y", "y")
        self.assert_each_deed(("small", -1, "ahead"), ("small", -1, "behind"), "xYz", "z", "Z", "z")
        self.assert_each_deed(("mark", 1, "ahead"), ("mark", -1, "behind"), "x z", " ", " ", " ")
        self.assert_each_deed(BEGIN, END, "q", "q", "Q", "q")
        self.assert_each_deed(BEGIN, END, "Q", "Q", "Q", "q")

    def test_every_letter_is_raised_and_sunk(self):
        small = "abcdefghijklmnopqrstuvwxyz"
        great = "ABCDEFGHIJKLMNOPQRSTUVWXYZ"
        for a, b in zip(small, great):
            self.assert_each_deed(BEGIN, END, a + b, a + b, b + b, a + a)

    def test_marks_and_figures_stay(self):
        kept = "0123456789 -.,/"
        self.assert_each_deed(BEGIN, END, kept, kept, kept, kept)
        self.assert_each_deed(BEGIN, END, "a-1.B, /9c", "a-1.B, /9c", "A-1.B, /9C", "a-1.b, /9c")

    def test_a_text_of_twenty_four_signs(self):
        text = "abcdefgh ABCDEFGH 012345"
        self.assertEqual(len(text), 24)
        self.assert_each_deed(BEGIN, END, text, text, "ABCDEFGH ABCDEFGH 012345", "abcdefgh abcdefgh 012345")

    def test_places_found_alike(self):
        self.assert_no_deed_answers(BEGIN, BEGIN, "abc")
        self.assert_no_deed_answers(END, END, "abc")
        self.assert_no_deed_answers(BEGIN, ("small", 1, "ahead"), "abc")
        self.assert_no_deed_answers(("any", 1, "behind"), ("any", 2, "ahead"), "abc")
        self.assert_no_deed_answers(("small", -1, "behind"), ("mark", 1, "ahead"), "abc-")

    def test_first_place_greater(self):
        self.assert_no_deed_answers(END, BEGIN, "abc")
        self.assert_no_deed_answers(("any", 1, "behind"), BEGIN, "a")
        self.assert_no_deed_answers(("figure", 1, "ahead"), ("small", -1, "behind"), "abc 123")
        self.assert_no_deed_answers(("any", -1, "ahead"), ("any", 1, "behind"), "abc")

    def test_a_place_not_found(self):
        self.assert_no_deed_answers(("figure", 1, "ahead"), END, "abc")
        self.assert_no_deed_answers(BEGIN, ("figure", 1, "ahead"), "abc")
        self.assert_no_deed_answers(("figure", 1, "ahead"), ("mark", 1, "behind"), "abc")
        self.assert_no_deed_answers(("great", 2, "ahead"), END, "Abc")
        self.assert_no_deed_answers(BEGIN, ("great", -2, "behind"), "abC")
        self.assert_no_deed_answers(("figure", -2, "ahead"), ("figure", 2, "behind"), "a1b")

    def test_the_text_of_no_signs(self):
        self.assert_no_deed_answers(BEGIN, END, "")
        self.assert_no_deed_answers(("small", 1, "ahead"), ("mark", -2, "behind"), "")


class RowAnswerTest(PiecesTest):
    FIRST = ("copy", ("great", 1, "ahead"), ("great", 1, "behind"))
    SECOND = ("raise", ("great", 2, "ahead"), ("small", -1, "behind"))
    YEAR = ("sink", ("figure", 1, "ahead"), ("figure", 2, "behind"))
    DOT = ("word", ". ")

    def assert_row(self, row, text, told):
        with self.subTest(row=row, text=text):
            for again in range(2):
                self.assertEqual(row_answer(row, text), told)
                self.assertIs(type(row_answer(row, text)), type(told))

    def test_one_piece(self):
        self.assert_row((self.FIRST,), TEXT, "A")
        self.assert_row((self.SECOND,), TEXT, "BYRON")
        self.assert_row((self.DOT,), "", ". ")

    def test_two_pieces(self):
        self.assert_row((self.FIRST, self.SECOND), TEXT, "ABYRON")
        self.assert_row((self.SECOND, self.FIRST), TEXT, "BYRONA")
        self.assert_row((self.DOT, self.DOT), TEXT, ". . ")

    def test_three_pieces(self):
        self.assert_row((self.FIRST, self.DOT, self.SECOND), TEXT, "A. BYRON")
        self.assert_row((self.SECOND, self.DOT, self.YEAR), TEXT, "BYRON. 18")
        self.assert_row((self.FIRST, self.FIRST, self.FIRST), TEXT, "AAA")

    def test_a_long_answer(self):
        whole = ("copy", BEGIN, END)
        text = "abcdefghijklmnopqrstuvwx"
        self.assert_row((whole, whole, whole), text, text * 3)

    def test_no_answer_where_one_piece_has_none(self):
        silent = ("copy", ("figure", 1, "ahead"), END)
        good = ("sink", BEGIN, END)
        rows = (
            (silent,), (silent, good), (good, silent), (silent, good, self.DOT), (good, silent, self.DOT),
            (good, self.DOT, silent), (silent, silent, good), (good, silent, silent), (silent, silent, silent),
        )
        for row in rows:
            self.assert_row(row, "Ada", None)
        self.assert_row((good, self.DOT, good), "Ada", "ada. ada")

    def test_no_answer_where_a_stretch_is_empty_or_turned(self):
        self.assert_row((self.DOT, ("copy", BEGIN, BEGIN)), "Ada", None)
        self.assert_row((("raise", END, BEGIN), self.DOT), "Ada", None)


class PriceTest(PiecesTest):
    KINDS = ("small", "great", "figure", "mark", "any")

    def assert_price(self, piece, told):
        with self.subTest(piece):
            for again in range(2):
                self.assertEqual(piece_price(piece), told)
                self.assertIs(type(piece_price(piece)), int)

    def test_words(self):
        told = (5, 7, 9, 11, 13, 15, 17, 19)
        for length, price in enumerate(told, start=1):
            self.assert_price(("word", "a" * length), price)
            self.assert_price(("word", " " * length), price)

    def test_deeds(self):
        self.assert_price(("copy", BEGIN, END), 2)
        self.assert_price(("raise", BEGIN, END), 4)
        self.assert_price(("sink", BEGIN, END), 4)

    def test_places_of_each_kind_and_nth(self):
        for deed, more in (("copy", 0), ("raise", 2), ("sink", 2)):
            for kind in self.KINDS:
                for nth, price in ((1, 1), (-1, 1), (2, 3), (-2, 3)):
                    for edge in ("ahead", "behind"):
                        cost = price + (0 if kind == "any" else 1)
                        self.assert_price((deed, (kind, nth, edge), END), more + cost + 1)
                        self.assert_price((deed, BEGIN, (kind, nth, edge)), more + 1 + cost)

    def test_pieces_by_hand(self):
        self.assert_price(("copy", ("small", 1, "ahead"), ("great", -1, "behind")), 4)
        self.assert_price(("copy", ("figure", 2, "ahead"), ("mark", -2, "behind")), 8)
        self.assert_price(("raise", ("any", 2, "ahead"), ("small", 2, "behind")), 9)
        self.assert_price(("sink", ("great", -2, "ahead"), ("any", -2, "behind")), 9)
        self.assert_price(("sink", ("mark", -1, "ahead"), ("figure", 1, "behind")), 6)

    def test_rows(self):
        copied = ("copy", BEGIN, END)
        raised = ("raise", ("small", 2, "ahead"), ("any", -1, "behind"))
        word = ("word", "abcdefgh")
        rows = (
            ((copied,), 2), ((raised,), 7), ((word,), 19), ((("word", "-"),), 5), ((copied, raised), 9),
            ((raised, word), 26), ((copied, raised, word), 28), ((word, word, word), 57), ((copied, copied, copied), 6),
        )
        for row, told in rows:
            with self.subTest(row):
                for again in range(2):
                    self.assertEqual(row_price(row), told)
                    self.assertIs(type(row_price(row)), int)


if __name__ == "__main__":
    unittest.main()
