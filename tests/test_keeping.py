import itertools
import unittest

from byexample.errors import NoNumber, NothingFits
from byexample.keeping import keep, least, left, number_of, program_at
from byexample.numbers import many
from byexample.programs import check, price, run
from byexample.tables import table_of

from helper import BEGIN, EMPTY_KEEP_CASES, END, KEEP_CASES, NAMES, SIX, SIX_WORDS, SMALL_SET, THREE_LOOKS, WHOLE
from helper import assert_refused, assert_same, counted_programs, least_price, parted, program_fits, some_numbers


def small_rows(pieces, lengths):
    return [row for length in lengths for row in itertools.product(pieces, repeat=length)]


def small_programs(words, looks, examples, pieces):
    """Programs of rows of some pieces, do and if, for the looks and for one that is not among them."""
    rows = small_rows(pieces, (1, 2))
    programs = [("do", row) for row in small_rows(pieces, (1, 2, 3))]
    for look in list(looks) + [("begins", "mark"), ("has", "great")]:
        programs += [("if", look, row, other) for row in rows for other in rows[:len(pieces)]]
        programs += [("if", look, row, other) for row in rows[:len(pieces)] for other in rows]
    return programs


class KeepsTest(unittest.TestCase):
    def assert_keep(self, words, looks, examples):
        """Each number that is tried tells a program that is left, no two the same, and is told by it again."""
        kept = keep(words, looks, examples)
        programs = {}
        for number in some_numbers(left(kept)):
            program = program_at(kept, number)
            self.assertIs(check(program), True)
            self.assertTrue(program_fits(program, words, looks, examples), program)
            self.assertNotIn(program, programs)
            programs[program] = number
            assert_same(self, number_of(kept, program), number)
            assert_same(self, program_at(kept, number), program)
        return kept

    def assert_no_number(self, kept, numbers):
        for number in numbers:
            assert_refused(self, NoNumber, program_at, kept, number)


class NumbersTest(KeepsTest):
    def test_programs_that_are_told_fit_and_have_their_numbers(self):
        for words, looks, examples in KEEP_CASES:
            with self.subTest(words=words, looks=looks, examples=examples):
                self.assertGreater(left(self.assert_keep(words, looks, examples)), 0)

    def test_no_program_that_fits_is_left_out(self):
        for words, looks, examples in KEEP_CASES + EMPTY_KEEP_CASES:
            with self.subTest(words=words, looks=looks, examples=examples):
                assert_same(self, left(keep(words, looks, examples)), counted_programs(words, looks, examples))

    def test_the_count_is_that_of_the_do_programs_and_of_each_look(self):
        for words, looks, examples in KEEP_CASES + EMPTY_KEEP_CASES:
            with self.subTest(words=words, looks=looks, examples=examples):
                count = many(table_of(words, examples))
                self.assertEqual(left(keep(words, [], examples)), count)
                for look in looks:
                    tables = [table_of(words, part) for part in parted(look, examples)]
                    ways = many(tables[0]) * many(tables[1])
                    self.assertEqual(left(keep(words, [look], examples)), many(table_of(words, examples)) + ways)
                    count += ways
                self.assertEqual(left(keep(words, looks, examples)), count)

    def test_numbers_that_are_no_programs(self):
        for words, looks, examples in KEEP_CASES:
            with self.subTest(words=words, looks=looks, examples=examples):
                kept = keep(words, looks, examples)
                count = left(kept)
                self.assert_no_number(kept, (-1, -2, -count, -count - 1, -10 ** 30))
                self.assert_no_number(kept, (count, count + 1, 2 * count, count ** 2 + 1, 10 ** 60, 10 ** 900))
                self.assertTrue(program_fits(program_at(kept, 0), words, looks, examples))
                self.assertTrue(program_fits(program_at(kept, count - 1), words, looks, examples))

    def test_nothing_is_left(self):
        for words, looks, examples in EMPTY_KEEP_CASES:
            with self.subTest(words=words, looks=looks, examples=examples):
                kept = keep(words, looks, examples)
                assert_same(self, left(kept), 0)
                self.assert_no_number(kept, (-1, 0, 1, 10 ** 30))
                assert_refused(self, NothingFits, least, kept)
                for row in ((WHOLE,), (("word", "a"),), (WHOLE, ("word", "b"))):
                    self.assertIsNone(number_of(kept, ("do", row)))
                    for look in looks:
                        self.assertIsNone(number_of(kept, ("if", look, row, (("word", "a"),))))

    def test_counts_by_hand(self):
        rows = 4800 + 4800 ** 2 + 4800 ** 3
        self.assertEqual(left(keep([], [], [])), rows)
        self.assertEqual(left(keep([], [("has", "any")], [])), rows + rows ** 2)
        self.assertEqual(left(keep([], THREE_LOOKS, [])), rows + 3 * rows ** 2)
        word = ("word", "q")
        # The row to which no example comes may be any row of the words.
        any_row = 4801 + 4801 ** 2 + 4801 ** 3
        self.assertEqual(left(keep(["q"], [("has", "any")], [("", "q")])), 1 + any_row)
        self.assertEqual(left(keep(["q"], [("begins", "any")], [("Z", "q")])), 1 + any_row)
        self.assertEqual(left(keep(["q"], [("has", "small")], [("q", "qq")])), 33 ** 2 + 33 ** 2 * any_row)
        kept = keep(["q"], [("has", "any")], [("", "q"), ("Z", "qqq")])
        self.assertEqual(left(kept), 1)
        self.assertEqual(program_at(kept, 0), ("if", ("has", "any"), (word, word, word), (word,)))
        kept = keep(["q"], [("has", "any")], [("", "qqq"), ("Z", "q")])
        self.assertEqual(left(kept), 1)
        self.assertEqual(program_at(kept, 0), ("if", ("has", "any"), (word,), (word, word, word)))
        # A do program and an if program of the same row both ways are two, and so are two looks.
        self.assertEqual(left(keep(["q"], [("has", "great")], [("", "q"), ("Z", "q")])), 2)
        self.assertEqual(left(keep(["q"], [("has", "great"), ("begins", "any")], [("", "q"), ("Z", "q")])), 3)

    def test_every_number_of_some_keeps(self):
        cases = (
            (["q", "qq"], [("has", "any"), ("begins", "great")], [("", "qqq"), ("Z", "qqqq")]),
            (["-"], [("has", "figure")], [("a", "a-"), ("1", "1-")]),
            (["no"], [("has", "small"), ("has", "any"), ("begins", "small")], [("q", "q"), ("", "no"), ("r", "R")]),
            (["no"], [("has", "small"), ("has", "any"), ("begins", "small")], [("q", "q"), ("", "no")]),
        )
        for words, looks, examples in cases:
            with self.subTest(words=words, looks=looks, examples=examples):
                kept = keep(words, looks, examples)
                programs = [program_at(kept, number) for number in range(left(kept))]
                self.assertEqual(len(set(programs)), counted_programs(words, looks, examples))
                for number, program in enumerate(programs):
                    self.assertTrue(program_fits(program, words, looks, examples))
                    self.assertEqual(number_of(kept, program), number)


class NumberOfTest(KeepsTest):
    PIECES = (WHOLE, ("raise", BEGIN, END), ("word", "-"), ("copy", BEGIN, ("any", 1, "behind")), ("word", "a"))

    def test_a_small_set_gone_through(self):
        cases = (
            (["-"], [("has", "figure")], [("ab", "ab-"), ("a1", "a1-"), ("22", "22-")]),
            (["-", "a"], [("has", "figure")], [("ab", "AB"), ("a1", "a1-"), ("22", "22-"), ("q", "Q")]),
            (["-"], [("begins", "small"), ("has", "figure")], [("a1", "A1"), ("1", "1-")]),
            (["a", "-"], [("has", "any")], []),
            (["a"], [("has", "great"), ("begins", "mark")], [("a", "aa"), ("B", "Ba")]),
            (["-"], [], [("ab", "ab-")]),
        )
        for words, looks, examples in cases:
            with self.subTest(words=words, looks=looks, examples=examples):
                kept = keep(words, looks, examples)
                numbers = {}
                for program in small_programs(words, looks, examples, self.PIECES):
                    number = number_of(kept, program)
                    self.assertEqual(number is not None, program_fits(program, words, looks, examples), program)
                    if number is not None:
                        self.assertEqual(numbers.setdefault(number, program), program)
                        assert_same(self, program_at(kept, number), program)
                self.assertGreater(len(numbers), 0)
                self.assertTrue(all(0 <= number < left(kept) for number in numbers))

    def test_programs_that_are_not_left(self):
        looks = [("has", "figure"), ("begins", "small")]
        examples = [("ab", "AB"), ("a1", "a1-"), ("22", "22-"), ("q", "Q")]
        kept = keep(["-", "."], looks, examples)
        great = (("raise", BEGIN, END),)
        dash = (WHOLE, ("word", "-"))
        self.assertIsNotNone(number_of(kept, ("if", ("has", "figure"), dash, great)))
        programs = (
            ("do", great), ("do", dash), ("do", (WHOLE,)), ("if", ("has", "figure"), great, dash),
            ("if", ("begins", "figure"), dash, great), ("if", ("has", "small"), dash, great),
            ("if", ("begins", "small"), dash, great), ("if", ("begins", "small"), great, dash),
            ("if", ("has", "figure"), dash, dash), ("if", ("has", "figure"), great, great),
            ("if", ("has", "figure"), (WHOLE, ("word", ".")), great),
            ("if", ("has", "figure"), (WHOLE, ("word", "x")), great),
            ("if", ("has", "figure"), dash, (("word", "Q"),)),
        )
        for program in programs:
            with self.subTest(program):
                for again in range(2):
                    self.assertIsNone(number_of(kept, program))

    def test_other_words_in_the_row_to_which_no_example_comes(self):
        kept = keep(["-"], [("has", "figure")], [("ab", "ab-")])
        dash = (WHOLE, ("word", "-"))
        for row in (dash, (WHOLE,), (("word", "-"),), (("copy", END, BEGIN),), (WHOLE, WHOLE, ("word", "-"))):
            program = ("if", ("has", "figure"), row, dash)
            assert_same(self, program_at(kept, number_of(kept, program)), program)
            self.assertIsNone(number_of(kept, ("if", ("has", "mark"), row, dash)))
        dot = ("word", ".")
        for row in ((dot,), (("word", "--"),), (WHOLE, ("word", " ")), (("word", "-"), WHOLE, dot)):
            self.assertIsNone(number_of(kept, ("if", ("has", "figure"), row, dash)))
            self.assertIsNone(number_of(keep(["-"], [], []), ("do", row)))

    def test_what_is_no_program_has_no_number(self):
        kept = keep(["-"], [("has", "figure")], [])
        row = (WHOLE, ("word", "-"))
        mistaken = (("copy", ("any", True, "ahead"), END),)
        things = (
            None, "do", (), ("do",), ("if", ("has", "figure"), row), ("do", row, row), ["do", row], ("if", row), row,
            ("do", mistaken), ("if", ("has", "figure"), row, mistaken), ("if", ["has", "figure"], row, row),
            ("do", list(row)), ("else", row), ("do", ("has", "figure"), row, row), ("if", None, row, row),
        )
        for thing in things:
            with self.subTest(thing):
                self.assertIsNone(number_of(kept, thing))


class LeastTest(KeepsTest):
    def test_the_least_program_is_left_and_costs_the_least(self):
        for words, looks, examples in KEEP_CASES:
            with self.subTest(words=words, looks=looks, examples=examples):
                kept = keep(words, looks, examples)
                program = least(kept)
                self.assertIs(check(program), True)
                self.assertTrue(program_fits(program, words, looks, examples), program)
                assert_same(self, program_at(kept, number_of(kept, program)), program)
                self.assertEqual(price(program), least_price(words, looks, examples))
                for number in some_numbers(left(kept)):
                    self.assertLessEqual(price(program), price(program_at(kept, number)))

    def test_a_small_set_gone_through(self):
        cases = (
            (["-"], [("has", "figure")], [("ab", "AB"), ("a1", "a1-"), ("22", "22-"), ("q", "Q")]),
            (["-", "a"], [("begins", "small"), ("has", "figure")], [("a1", "A1"), ("1", "1-")]),
            (["-"], [], [("ab", "ab-")]),
            (["a", "-"], [("has", "any")], []),
        )
        for words, looks, examples in cases:
            with self.subTest(words=words, looks=looks, examples=examples):
                program = least(keep(words, looks, examples))
                found = 0
                for other in small_programs(words, looks, examples, SMALL_SET[3:8]):
                    if program_fits(other, words, looks, examples):
                        found += 1
                        self.assertLessEqual(price(program), price(other))
                self.assertGreater(found, 0)

    def test_by_hand(self):
        yes = ("word", "yes")
        no = ("word", "no")
        examples = [("a1", "yes"), ("b", "no"), ("77", "yes")]
        # A begins costs more than a has, wherever it is listed.
        kept = keep(["yes", "no"], [("begins", "figure"), ("has", "figure")], examples[1:])
        assert_same(self, least(kept), ("if", ("has", "figure"), (yes,), (no,)))
        kept = keep(["yes", "no"], [("has", "figure"), ("begins", "figure")], examples[1:])
        assert_same(self, least(kept), ("if", ("has", "figure"), (yes,), (no,)))
        kept = keep(["yes", "no"], [("begins", "figure")], examples[1:])
        assert_same(self, least(kept), ("if", ("begins", "figure"), (yes,), (no,)))
        assert_refused(self, NothingFits, least, keep(["yes", "no"], [("begins", "figure")], examples))
        # A do program where one fits and is cheaper, an if program where that is.
        kept = keep(["yes"], THREE_LOOKS, [("abcde", "abcde")])
        assert_same(self, least(kept), ("do", (WHOLE,)))
        kept = keep(["12345678"], [("has", "figure")], [("a1b2c3d4e5f6", "12345678"), ("abcde", "12345678")])
        assert_same(self, least(kept), ("do", (("word", "12345678"),)))
        kept = keep(["aaaaaaaa"], [("has", "figure")], [("aaaa", "aaaaaaaa"), ("1", "aaaaaaaa")])
        self.assertEqual(price(least(kept)), 19)
        kept = keep(["abcdabcd"], [("has", "figure")], [("abcd", "abcdabcd"), ("1", "11")])
        self.assertEqual(price(least(kept)), 4)

    def test_an_if_program_may_be_cheaper_than_a_do_program(self):
        examples = [("BB-B", "BB-B"), ("1aBaB", "1aBa")]
        program = least(keep([], [], examples))
        self.assertEqual((program[0], price(program)), ("do", 11))
        most = ("copy", BEGIN, ("any", -1, "ahead"))
        figure = ("has", "figure")
        for looks in ([figure], [("begins", "figure"), figure], [figure, ("has", "any")]):
            program = least(keep([], looks, examples))
            assert_same(self, program, ("if", figure, (most,), (WHOLE,)))
            self.assertEqual(price(program), 9)
        # No program of another look is cheaper than the do program.
        self.assertEqual(least(keep([], [("has", "any")], examples))[0], "do")


class OrderAndOwnersTest(KeepsTest):
    def told(self, kept):
        count = left(kept)
        programs = [program_at(kept, number) for number in some_numbers(count)]
        return count, programs, [number_of(kept, program) for program in programs], least(kept)

    def test_the_order_of_the_examples_changes_nothing(self):
        cases = (
            ([". ", ".", " "], [("begins", "great")], NAMES),
            (["-"], [("has", "figure")], [("ab", "AB"), ("a1", "a1-"), ("22", "22-"), ("q", "Q")]),
            (["yes", "no"], THREE_LOOKS, [("a1", "yes"), ("b", "no"), ("77", "yes")]),
            (["- ", "-"], THREE_LOOKS, SIX[:3]),
        )
        for words, looks, examples in cases:
            kept = self.told(keep(words, looks, examples))
            for other in itertools.permutations(examples):
                with self.subTest(words=words, looks=looks, examples=other):
                    assert_same(self, self.told(keep(words, looks, list(other))), kept)

    def test_what_is_handed_in_stays_as_it_is(self):
        for words, looks, examples in KEEP_CASES:
            with self.subTest(words=words, looks=looks, examples=examples):
                own = (list(words), list(looks), list(reversed(examples)))
                self.told(keep(*own))
                assert_same(self, own, (list(words), list(looks), list(reversed(examples))))

    def test_what_is_done_to_it_behind_the_call_changes_nothing(self):
        for words, looks, examples in KEEP_CASES:
            with self.subTest(words=words, looks=looks, examples=examples):
                wanted = self.told(keep(words, looks, examples))
                for spoil in (list.clear, list.reverse, lambda things: things.append(None)):
                    own = (list(words), list(looks), list(examples))
                    kept = keep(*own)
                    for things in own:
                        spoil(things)
                    assert_same(self, self.told(kept), wanted)

    def test_asked_again_and_side_by_side(self):
        first = keep(["-"], [("has", "figure")], [("ab", "ab-"), ("a1", "a1-")])
        wanted = self.told(first)
        second = keep(["-", "a"], [("has", "figure"), ("has", "mark")], [("ab", "ab-"), ("a1", "A1")])
        self.told(second)
        assert_refused(self, NoNumber, program_at, first, -1)
        self.assertIsNone(number_of(first, ("do", (("word", "a"),))))
        assert_same(self, self.told(first), wanted)


class BeyondTest(KeepsTest):
    def test_somewhat_beyond_the_bounds_nothing_is_refused(self):
        words = SIX_WORDS + ["b", "c"]
        looks = THREE_LOOKS + [("has", "any"), ("begins", "figure")]
        examples = SIX + [("David Hilbert-Courant, 1862", "1862- Hilbert-Courant"), ("A B, 1", "1- B")]
        kept = self.assert_keep(words, looks, examples)
        self.assertEqual(left(kept), counted_programs(words, looks, examples))
        self.assertEqual(run(least(kept), "Carl Gauss, 1777"), "1777- Gauss")


if __name__ == "__main__":
    unittest.main()
