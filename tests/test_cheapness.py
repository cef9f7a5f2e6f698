import itertools
import unittest

from byexample.cheapness import cheapest
from byexample.numbers import many, row_at, row_number
from byexample.pieces import row_price
from byexample.programs import check
from byexample.tables import table_of

from helper import BEGIN, CASES, EMPTY_CASES, END, NAMES, SIX, SMALL_SET, WHOLE
from helper import assert_same, fits, least_row_price, some_numbers

NO_EXAMPLES = (([], []), (["a"], []), (["abcdefgh", " ", "-", "Z", "0", "a b"], []))


class CheapestTest(unittest.TestCase):
    def assert_cheapest(self, words, examples):
        """The row is of the table, and costs what the cheapest one does."""
        table = table_of(words, examples)
        row = cheapest(table)
        self.assertIs(check(("do", row)), True)
        self.assertTrue(fits(row, words, examples), row)
        number = row_number(table, row)
        self.assertIsNotNone(number)
        assert_same(self, row_at(table, number), row)
        self.assertEqual(row_price(row), least_row_price(words, examples))
        return table, row

    def test_the_row_is_of_the_table_and_costs_the_least(self):
        for words, examples in CASES + NO_EXAMPLES:
            with self.subTest(words=words, examples=examples):
                table, row = self.assert_cheapest(words, examples)
                for number in some_numbers(many(table)):
                    self.assertLessEqual(row_price(row), row_price(row_at(table, number)))

    def test_each_row_of_some_tables_costs_as_much_or_more(self):
        cases = (([], [("ab1", "1b")]), (["-"], [("a1", "A-1"), ("b22", "B-22")]), (["q"], [("q", "qq")]))
        for words, examples in cases:
            with self.subTest(words=words, examples=examples):
                table, row = self.assert_cheapest(words, examples)
                prices = [row_price(row_at(table, number)) for number in range(many(table))]
                self.assertEqual(row_price(row), min(prices))

    def test_a_small_set_gone_through(self):
        cases = (
            (["a", "-"], [("a", "aaa")]),
            (["a", "aa"], [("aa", "aaaa")]),
            (["-", "b"], [("ab", "ab-"), ("aab", "aab-")]),
            (["-", "a"], [("a1", "A-1"), ("b22", "B-22")]),
            ([], [("aB", "aBABab")]),
            (["a", "b", "-", "aa"], []),
        )
        for words, examples in cases:
            with self.subTest(words=words, examples=examples):
                row = self.assert_cheapest(words, examples)[1]
                found = 0
                for length in (1, 2, 3):
                    for other in itertools.product(SMALL_SET, repeat=length):
                        if fits(other, words, examples):
                            found += 1
                            self.assertLessEqual(row_price(row), row_price(other))
                self.assertGreater(found, 0)

    def test_rows_by_hand(self):
        # Of each of these one row alone costs the least.
        cases = (
            (["q"], [("", "q")], (("word", "q"),)),
            # One word is cheaper than two that say the same, and three short ones may be the only way.
            (["a", "b", "ab"], [("", "ab")], (("word", "ab"),)),
            (["ab", "b", "a"], [("", "ab")], (("word", "ab"),)),
            (["a"], [("", "aaa")], (("word", "a"), ("word", "a"), ("word", "a"))),
            (["abcde"], [("abcde", "abcde")], (WHOLE,)),
            ([], [("abc DEF 123", "ABC DEF 123")], (("raise", BEGIN, END),)),
            ([], [("abc DEF 123", "abc def 123")], (("sink", BEGIN, END),)),
            # Two or three pieces may cost less than one.
            (["abcabc"], [("abc", "abcabc")], (WHOLE, WHOLE)),
            (["abcdabcd", "abcd"], [("abcd", "abcdabcdabcd")], (WHOLE, WHOLE, WHOLE)),
        )
        for words, examples, row in cases:
            with self.subTest(words=words, examples=examples):
                assert_same(self, cheapest(table_of(words, examples)), row)

    def test_prices_by_hand(self):
        self.assertEqual(row_price(cheapest(table_of([], []))), 2)
        self.assertEqual(row_price(cheapest(table_of(["a"], [("b", "a"), ("C", "a")]))), 5)
        self.assertEqual(row_price(cheapest(table_of([], [("b", "B"), ("cd", "CD")]))), 4)
        self.assertEqual(row_price(cheapest(table_of([". "], NAMES))), 2 + 7 + 5)

    def test_none_where_there_are_no_rows(self):
        for words, examples in EMPTY_CASES:
            with self.subTest(words=words, examples=examples):
                for again in range(2):
                    self.assertIsNone(cheapest(table_of(words, examples)))


class TheSameEachTimeTest(unittest.TestCase):
    def test_the_order_of_the_examples_changes_nothing(self):
        cases = (([". ", ".", " "], NAMES), (["-"], [("ab1", "ab-1"), ("q22", "q-22")]), (["- ", "-", " "], SIX[:4]))
        for words, examples in cases:
            row = cheapest(table_of(words, examples))
            for other in itertools.permutations(examples):
                with self.subTest(words=words, examples=other):
                    assert_same(self, cheapest(table_of(words, list(other))), row)

    def test_asked_again(self):
        for words, examples in CASES + NO_EXAMPLES:
            with self.subTest(words=words, examples=examples):
                table = table_of(words, examples)
                row = cheapest(table)
                count = many(table)
                row_at(table, count - 1)
                row_number(table, row)
                assert_same(self, cheapest(table), row)
                assert_same(self, cheapest(table_of(words, examples)), row)
                self.assertEqual(many(table), count)

    def test_what_is_done_behind_the_call_changes_nothing(self):
        for words, examples in CASES:
            with self.subTest(words=words, examples=examples):
                row = cheapest(table_of(words, examples))
                own_words = list(words)
                own_examples = list(examples)
                table = table_of(own_words, own_examples)
                own_words.clear()
                own_examples.clear()
                assert_same(self, cheapest(table), row)


if __name__ == "__main__":
    unittest.main()
