import itertools
import unittest

from byexample.errors import NoNumber
from byexample.numbers import many, row_at, row_number
from byexample.programs import check
from byexample.tables import table_of

from helper import BEGIN, CASES, EMPTY_CASES, END, NAMES, SIX, SMALL_SET, WHOLE
from helper import assert_refused, assert_same, counted, fits, pieces_with, some_numbers


class TablesTest(unittest.TestCase):
    def assert_table(self, words, examples):
        """Each number that is tried tells a row that fits, no two the same, and is told by that row again."""
        table = table_of(words, examples)
        rows = {}
        for number in some_numbers(many(table)):
            row = row_at(table, number)
            self.assertIs(check(("do", row)), True)
            self.assertTrue(fits(row, words, examples), row)
            self.assertNotIn(row, rows)
            rows[row] = number
            assert_same(self, row_number(table, row), number)
            assert_same(self, row_at(table, number), row)
        return table

    def assert_no_number(self, table, numbers):
        for number in numbers:
            assert_refused(self, NoNumber, row_at, table, number)


class NumbersTest(TablesTest):
    def test_rows_that_are_told_fit_and_have_their_numbers(self):
        for words, examples in CASES:
            with self.subTest(words=words, examples=examples):
                self.assertGreater(many(self.assert_table(words, examples)), 0)

    def test_no_row_that_fits_is_left_out(self):
        for words, examples in CASES:
            with self.subTest(words=words, examples=examples):
                assert_same(self, many(table_of(words, examples)), counted(words, examples))

    def test_numbers_that_are_no_rows(self):
        for words, examples in CASES:
            with self.subTest(words=words, examples=examples):
                table = table_of(words, examples)
                count = many(table)
                self.assert_no_number(table, (-1, -2, -count, -10 ** 30))
                self.assert_no_number(table, (count, count + 1, 2 * count, 10 ** 30, 10 ** 900))
                self.assertTrue(fits(row_at(table, count - 1), words, examples))
                self.assertTrue(fits(row_at(table, 0), words, examples))

    def test_nothing_fits(self):
        for words, examples in EMPTY_CASES:
            with self.subTest(words=words, examples=examples):
                table = table_of(words, examples)
                assert_same(self, many(table), 0)
                self.assertEqual(counted(words, examples), 0)
                self.assert_no_number(table, (-1, 0, 1, 10 ** 30))
                for row in ((WHOLE,), (("word", "a"),), (WHOLE, ("word", "b")), (WHOLE, WHOLE, WHOLE)):
                    self.assertIsNone(row_number(table, row))

    def test_counts_by_hand(self):
        word = ("word", "q")
        table = table_of(["q"], [("", "q")])
        self.assertEqual((many(table), row_at(table, 0)), (1, (word,)))
        table = table_of(["q"], [("", "qqq"), ("Z", "qqq")])
        self.assertEqual((many(table), row_at(table, 0)), (1, (word, word, word)))
        # One sign of one kind: it is found ahead and behind by small and any, 1 and -1, and may be copied or sunk.
        self.assertEqual(many(table_of([], [("q", "q")])), 2 * 4 * 4)
        self.assertEqual(many(table_of([], [("q", "Q")])), 4 * 4)
        self.assertEqual(many(table_of(["q"], [("q", "q")])), 33)
        self.assertEqual(many(table_of([], [("q", "qq")])), 32 * 32)
        self.assertEqual(many(table_of(["q"], [("q", "qqq")])), 33 ** 3)
        self.assertEqual(many(table_of(["qq"], [("q", "qqq")])), 32 ** 3 + 2 * 32)
        # A figure is not changed by any deed.
        self.assertEqual(many(table_of([], [("7", "7")])), 3 * 4 * 4)


class NoExamplesTest(TablesTest):
    def test_each_row_fits(self):
        for words in ([], ["a"], ["abcdefgh", " ", "-", "Z", "0", "a b"]):
            with self.subTest(words):
                pieces = 4800 + len(words)
                table = self.assert_table(words, [])
                assert_same(self, many(table), pieces + pieces ** 2 + pieces ** 3)
                self.assertGreater(many(table), 10 ** 11)
                self.assert_no_number(table, (-1, many(table), many(table) + 1, 10 ** 30))

    def test_rows_of_all_pieces_have_numbers_of_their_own(self):
        words = ["a", "-"]
        table = table_of(words, [])
        pieces = pieces_with(words)
        numbers = {}
        for number, piece in enumerate(pieces):
            other = pieces[number * 7 % len(pieces)]
            for row in ((piece,), (piece, other), (other, WHOLE, piece), (("word", "-"), piece, other)):
                told = row_number(table, row)
                assert_same(self, row_at(table, told), row)
                self.assertEqual(numbers.setdefault(told, row), row)

    def test_rows_with_other_words_have_none(self):
        table = table_of(["a"], [])
        for word in ("b", "A", "aa", " ", "a "):
            piece = ("word", word)
            for row in ((piece,), (WHOLE, piece), (piece, ("word", "a")), (("word", "a"), WHOLE, piece)):
                self.assertIsNone(row_number(table, row))
        self.assertIsNotNone(row_number(table, (("word", "a"), WHOLE, ("word", "a"))))
        self.assertIsNone(row_number(table_of([], []), (("word", "a"),)))


class SmallSetTest(TablesTest):
    """All rows of one to three of some pieces are gone through."""

    def assert_numbers(self, words, examples):
        table = table_of(words, examples)
        numbers = {}
        for length in (1, 2, 3):
            for row in itertools.product(SMALL_SET, repeat=length):
                number = row_number(table, row)
                self.assertEqual(number is not None, fits(row, words, examples), row)
                if number is not None:
                    assert_same(self, row_at(table, number), row)
                    numbers[number] = row
        self.assertTrue(all(0 <= number < many(table) for number in numbers))
        return numbers

    def test_rows_that_fit_have_a_number_and_others_have_none(self):
        cases = (
            (["a", "-"], [("a", "aaa")]),
            (["a", "aa"], [("aa", "aaaa")]),
            (["-", "b"], [("ab", "ab-"), ("aab", "aab-")]),
            (["-"], [("a-b", "a-b")]),
            (["-", "a"], [("a1", "A-1"), ("b22", "B-22")]),
            (["aa", "b"], [("Aa-7", "aa-7"), ("Bb-8", "bb-8")]),
            ([], [("aB", "aBABab")]),
        )
        for words, examples in cases:
            with self.subTest(words=words, examples=examples):
                self.assertGreater(len(self.assert_numbers(words, examples)), 0)

    def test_no_row_fits(self):
        for words, examples in ((["a"], [("a", "")]), (["a", "b"], [("a", "b"), ("b", "a")]), ([], [("", "a")])):
            with self.subTest(words=words, examples=examples):
                self.assertEqual(self.assert_numbers(words, examples), {})

    def test_no_examples(self):
        numbers = self.assert_numbers(["a", "b", "-"], [])
        self.assertEqual(len(numbers), 17 + 17 ** 2 + 17 ** 3)


class AllNumbersTest(TablesTest):
    def test_every_number_of_some_tables(self):
        cases = (([], [("ab1", "1b")]), (["-"], [("a1", "A-1"), ("b22", "B-22")]), (["q"], [("q", "qq")]))
        for words, examples in cases:
            with self.subTest(words=words, examples=examples):
                table = table_of(words, examples)
                self.assertEqual(many(table), counted(words, examples))
                rows = [row_at(table, number) for number in range(many(table))]
                self.assertEqual(len(set(rows)), many(table))
                for number, row in enumerate(rows):
                    self.assertTrue(fits(row, words, examples))
                    self.assertEqual(row_number(table, row), number)


class OrderAndOwnersTest(TablesTest):
    def told(self, table):
        count = many(table)
        return count, [row_at(table, number) for number in some_numbers(count)]

    def test_the_order_of_the_examples_changes_nothing(self):
        cases = (([". ", ".", " "], NAMES), (["-"], [("ab1", "ab-1"), ("q22", "q-22")]), (["- ", "-", " "], SIX[:4]))
        for words, examples in cases:
            kept = self.told(table_of(words, examples))
            for other in itertools.permutations(examples):
                with self.subTest(words=words, examples=other):
                    assert_same(self, self.told(table_of(words, list(other))), kept)
                    table = table_of(words, list(other))
                    for number, row in zip(some_numbers(kept[0]), kept[1]):
                        self.assertEqual(row_number(table, row), number)

    def test_what_is_handed_in_stays_as_it_is(self):
        for words, examples in CASES + EMPTY_CASES:
            own_words = list(words)
            own_examples = list(reversed(examples))
            table = table_of(own_words, own_examples)
            self.told(table)
            self.assertEqual(own_words, words)
            self.assertEqual(own_examples, list(reversed(examples)))

    def test_what_is_done_to_it_behind_the_call_changes_nothing(self):
        for words, examples in CASES + (([], []), (["a", "-"], [])):
            with self.subTest(words=words, examples=examples):
                kept = self.told(table_of(words, examples))
                for spoil in (list.clear, list.reverse, lambda things: things.append(None)):
                    own_words = list(words)
                    own_examples = list(examples)
                    table = table_of(own_words, own_examples)
                    spoil(own_words)
                    spoil(own_examples)
                    assert_same(self, self.told(table), kept)
                    for number, row in zip(some_numbers(kept[0]), kept[1]):
                        self.assertEqual(row_number(table, row), number)

    def test_tables_do_not_change_one_another(self):
        first = table_of([". "], NAMES)
        kept = self.told(first)
        second = table_of(["."], NAMES)
        self.told(second)
        assert_refused(self, NoNumber, row_at, first, -1)
        self.assertIsNone(row_number(first, (("word", "."),)))
        assert_same(self, self.told(first), kept)
        assert_same(self, self.told(table_of([". "], NAMES)), kept)


class RowNumberTest(TablesTest):
    FIRST = ("copy", ("great", 1, "ahead"), ("great", 1, "behind"))
    DOT = ("word", ". ")
    LAST = ("raise", ("mark", 1, "behind"), END)

    def test_a_row_of_the_table(self):
        table = table_of([". "], NAMES)
        row = (self.FIRST, self.DOT, self.LAST)
        assert_same(self, row_at(table, row_number(table, row)), row)

    def test_rows_that_are_not_of_the_table(self):
        table = table_of([". "], NAMES)
        rows = (
            (self.FIRST,), (self.DOT,), (self.LAST,), (self.FIRST, self.DOT), (self.DOT, self.LAST),
            (self.FIRST, self.LAST), (self.FIRST, self.DOT, self.FIRST), (self.DOT, self.FIRST, self.LAST),
            (self.LAST, self.DOT, self.FIRST), (self.FIRST, ("word", "."), self.LAST), (WHOLE,), (WHOLE, WHOLE),
            (self.FIRST, self.DOT, ("copy", ("mark", 1, "behind"), END)), (self.FIRST, self.DOT, ("raise", END, BEGIN)),
            (("copy", ("figure", 1, "ahead"), END), self.DOT, self.LAST),
        )
        for row in rows:
            with self.subTest(row):
                for again in range(2):
                    self.assertIsNone(row_number(table, row))

    def test_what_is_no_row_has_no_number(self):
        table = table_of([". "], NAMES)
        mistaken = ("copy", ("great", True, "ahead"), ("great", 1, "behind"))
        things = (
            (mistaken, self.DOT, self.LAST), [self.FIRST, self.DOT, self.LAST], (self.FIRST, list(self.DOT), self.LAST),
            (self.FIRST, ("word", [". "]), self.LAST), (self.FIRST, ("words", ". "), self.LAST), (), (None,), None,
            (self.FIRST, self.DOT, self.LAST, self.LAST), (["word"], self.DOT, self.LAST), self.DOT, "row",
        )
        for thing in things:
            with self.subTest(thing):
                self.assertIsNone(row_number(table, thing))
        every = table_of([". "], [])
        self.assertIsNone(row_number(every, (WHOLE, WHOLE, WHOLE, WHOLE)))
        self.assertIsNone(row_number(every, (mistaken,)))

    def test_a_row_that_fits_but_for_one_example(self):
        row = (("copy", BEGIN, ("any", 2, "behind")),)
        examples = [("ab", "ab"), ("abc", "ab"), ("abcd", "ab")]
        self.assertIsNotNone(row_number(table_of([], examples), row))
        for text, answer in (("xyz", "xyz"), ("xyz", "x"), ("xyz", "XY"), ("x", "x"), ("", "ab")):
            self.assertIsNone(row_number(table_of(["ab"], examples + [(text, answer)]), row))


class BeyondTest(TablesTest):
    def test_somewhat_beyond_the_bounds_nothing_is_refused(self):
        words = ["- ", "-", " ", "1", "a", "Z", "b", "c"]
        examples = SIX + [("David Hilbert-Courant, 1862", "1862- Hilbert-Courant"), ("A B, 1", "1- B")]
        self.assert_table(words, examples)
        long_text = "abcdefghijklmnopqrstuvwxyz0123"
        self.assertGreater(many(self.assert_table([], [(long_text, long_text * 3)])), 0)


if __name__ == "__main__":
    unittest.main()
