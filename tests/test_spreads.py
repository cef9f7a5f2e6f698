import collections
import itertools
import unittest

from byexample.keeping import keep, left, number_of, program_at
from byexample.programs import check, run
from byexample.spreads import answers, apart, question

from helper import EMPTY_KEEP_CASES, KEEP_CASES, LONG_TEXTS, LONGEST, NAMES, SIX, SIX_WORDS, THREE_LOOKS
from helper import assert_same, program_fits, program_spread, some_numbers

# Words, looks, examples and a text to which at most forty unlike answers are given.
SPREAD_CASES = (
    # All answer alike, or not at all.
    ([], [], [], ""),
    (["q"], [], [("", "q")], "Ada"),
    (["q"], [("has", "any")], [("", "q"), ("Z", "qqq")], "1"),
    ([], [], [("Ada", "Ada")], ""),
    # Some do not answer.
    ([], [], [], "a"),
    ([], [], [], "7"),
    ([], THREE_LOOKS, [], "7"),
    (["-"], [], [], "7"),
    (["x"], [("begins", "any")], [], ""),
    ([". "], [], NAMES, "Emmy"),
    ([". "], [], NAMES, "Kurt Godel"),
    ([". "], [], NAMES, "12"),
    ([". "], [], NAMES, ""),
    # All answer.
    ([], [], [("bdba", "bdba" * 3)], "aAAABB"),
    (["a", "b", "x"], [], [("bbab", "bb")], "aaba111a"),
    (["b", "x"], [("has", "figure")], [("bbbb", "bbbb" * 3)], "Aaaa"),
    (["a", "aa"], [], [("", "aa")], "b"),
    # A look leads to the row that the examples came to, or to one of any.
    (["-"], [("has", "figure")], [("ab", "AB"), ("a1", "a1-"), ("22", "22-"), ("q", "Q")], "aB"),
    (["-"], [("has", "figure")], [("ab", "AB"), ("a1", "a1-"), ("22", "22-"), ("q", "Q")], "7"),
    (["-"], [("has", "figure")], [("ab", "AB")], "7"),
    (["-"], [("has", "small")], [("ab", "AB")], "7"),
    ([], [("begins", "figure"), ("has", "figure")], [("a1", "1"), ("b", "b")], "7"),
    (["yes", "no"], THREE_LOOKS, [("a1", "yes"), ("b", "no"), ("77", "yes")], "Ada-1"),
    (["yes", "no"], [("has", "figure"), ("begins", "figure"), ("has", "any")], [("7", "yes"), ("b", "no")], "b7"),
    (SIX_WORDS, THREE_LOOKS, SIX, "Carl Gauss, 1777"),
    (SIX_WORDS, [], SIX, "gauss"),
    # The text stands among the examples.
    ([". "], [("begins", "great")], NAMES, "Ada Byron"),
    (SIX_WORDS, THREE_LOOKS, SIX, "Emmy Noether, 1882"),
)

# The same with the number of unlike answers, close by forty: None among them, or texts alone.
CLOSE_CASES = (
    (["a", "-"], [], [], "", 2 + 4 + 8 + 1),
    (["x", "y", "z"], [], [], "", 40),
    (["x", "y", "z"], THREE_LOOKS, [], "", 40),
    ([], [], [("a-aaaaaaaa", "a-")], "---a-a", 40),
    (["A", "1"], [("has", "figure")], [("1111AA", "1111aa1111aa")], "A", 40),
    (["a", "ab"], [], [("bccbbd", "bccbbdbccbbd")], "aAaaba", 40),
    (["b"], [("has", "great")], [("aAaA", "aAaA")], "a", 40),
    (["-"], [("begins", "small")], [("Aa1", "Aa1"), ("aaa", "aaa")], "AA11", 40),
    (["A", "1", "aA"], [], [("Aa", "Aa")], "aAA", 41),
    (["a", "ab"], [], [("aaaba", "aaabaab")], "aaaaAaaa", 41),
    (["ab"], [], [("abaa", "abaaabaa")], "a11bbbb", 41),
    (["b"], [("begins", "small")], [("1AA1", "1AA1"), ("aA1aA1", "AA1AA1")], "Aa", 41),
    ([], [("begins", "small")], [("a-aa", "a-aa"), ("--a--", "--a----a--")], "-a", 41),
)

# Words, looks, examples and a text to which very many unlike answers are given.
MANY_CASES = (
    ([], [], [], LONGEST),
    ([], [], [], "abc"),
    (SIX_WORDS, THREE_LOOKS, [], ""),
    (SIX_WORDS, THREE_LOOKS, [], LONGEST),
    (["-"], [("has", "figure")], [("ab", "AB")], LONGEST),
    (["x", "xx"], [("begins", "any")], [("", "x")], "Ada Byron, 1815-12/10 xy"),
    (SIX_WORDS, THREE_LOOKS, SIX, "12-ab.CD,34 ef/GH-56 ij."),
    (SIX_WORDS, THREE_LOOKS, [("a" * 24, "a" * 72)], "aAaA 1b"),
)


class SpreadsTest(unittest.TestCase):
    def assert_left(self, kept, program, words, looks, examples):
        self.assertIs(check(program), True)
        self.assertTrue(program_fits(program, words, looks, examples), program)
        assert_same(self, program_at(kept, number_of(kept, program)), program)

    def assert_many(self, words, looks, examples, text):
        """Forty-one programs left are told, no two of which answer alike."""
        kept = keep(words, looks, examples)
        told = answers(kept, text)
        self.assertEqual((type(told), len(told), told[0], type(told[1])), (tuple, 2, "many", list))
        self.assertEqual(len(told[1]), 41)
        for program in told[1]:
            self.assert_left(kept, program, words, looks, examples)
        self.assertEqual(len({run(program, text) for program in told[1]}), 41)


def in_order(spread):
    texts = sorted(answer for answer in spread if answer is not None)
    return [(answer, spread[answer]) for answer in ([None] if None in spread else []) + texts]


class AnswersTest(SpreadsTest):
    def test_each_answer_with_how_many_give_it(self):
        for words, looks, examples, text in SPREAD_CASES:
            with self.subTest(words=words, looks=looks, examples=examples, text=text):
                spread = program_spread(words, looks, examples, text)
                self.assertLessEqual(len(spread), 40)
                kept = keep(words, looks, examples)
                assert_same(self, answers(kept, text), ("all", in_order(spread)))
                self.assertEqual(sum(spread.values()), left(kept))

    def test_as_many_are_left_when_the_text_is_put_in_with_that_answer(self):
        for words, looks, examples, text in SPREAD_CASES:
            with self.subTest(words=words, looks=looks, examples=examples, text=text):
                kept = keep(words, looks, examples)
                pairs = answers(kept, text)[1]
                if text not in dict(examples):
                    for answer, number in pairs:
                        if answer is not None:
                            self.assertEqual(left(keep(words, looks, examples + [(text, answer)])), number)
                    for other in ("qqqqqqq", "", "Z-Z-Z"):
                        self.assertEqual(left(keep(words, looks, examples + [(text, other)])), 0)
                self.assertEqual(sum(number for answer, number in pairs), left(kept))
                self.assertEqual(len({answer for answer, number in pairs}), len(pairs))
                for answer, number in pairs:
                    self.assertGreater(number, 0)

    def test_programs_told_by_numbers_answer_as_it_is_told(self):
        for words, looks, examples, text in SPREAD_CASES:
            with self.subTest(words=words, looks=looks, examples=examples, text=text):
                kept = keep(words, looks, examples)
                told = dict(answers(kept, text)[1])
                for number in some_numbers(left(kept)):
                    self.assertIn(run(program_at(kept, number), text), told)

    def test_all_programs_of_small_keeps(self):
        cases = (
            (["no"], [("has", "small"), ("has", "any"), ("begins", "small")], [("q", "q"), ("", "no")]),
            (["-"], [("has", "figure")], [("a", "a-"), ("1", "1-")]),
            ([". "], [], NAMES),
        )
        for words, looks, examples in cases:
            kept = keep(words, looks, examples)
            programs = [program_at(kept, number) for number in range(left(kept))]
            for text in ("", "7", "xyz", "xy1", "1-a", "A", "Ada 1"):
                with self.subTest(words=words, looks=looks, examples=examples, text=text):
                    spread = collections.Counter(run(program, text) for program in programs)
                    self.assertLessEqual(len(spread), 40)
                    assert_same(self, answers(kept, text), ("all", in_order(spread)))

    def test_by_hand(self):
        assert_same(self, answers(keep([], [], []), ""), ("all", [(None, 4800 + 4800 ** 2 + 4800 ** 3)]))
        any_row = 4801 + 4801 ** 2 + 4801 ** 3
        three = 1 + 1 + 1
        told = answers(keep(["q"], [], []), "")
        assert_same(self, told, ("all", [(None, any_row - three), ("q", 1), ("qq", 1), ("qqq", 1)]))
        # A sign of one kind alone: 48 of the 4800 pieces answer, and all by it.
        told = answers(keep([], [], []), "7")
        silent = 4752 + (4800 ** 2 - 48 ** 2) + (4800 ** 3 - 48 ** 3)
        assert_same(self, told, ("all", [(None, silent), ("7", 48), ("77", 48 ** 2), ("777", 48 ** 3)]))
        # Great letters stand ahead of small ones in Python's order, and a blank ahead of both.
        told = answers(keep(["b", "B", " "], [("has", "any")], [("x", "b")]), "")
        self.assertEqual([answer for answer, number in told[1]][:6], [None, " ", "  ", "   ", "  B", "  b"])
        kept = keep(["q"], [("has", "any")], [("", "q")])
        assert_same(self, answers(kept, ""), ("all", [("q", 1 + any_row)]))

    def test_a_text_that_stands_among_the_examples(self):
        for words, looks, examples in KEEP_CASES:
            for text, answer in examples:
                with self.subTest(words=words, looks=looks, examples=examples, text=text):
                    kept = keep(words, looks, examples)
                    assert_same(self, answers(kept, text), ("all", [(answer, left(kept))]))

    def test_nothing_is_left(self):
        for words, looks, examples in EMPTY_KEEP_CASES:
            for text in ("", "a", "x", LONGEST):
                with self.subTest(words=words, looks=looks, examples=examples, text=text):
                    assert_same(self, answers(keep(words, looks, examples), text), ("all", []))

    def test_close_by_forty(self):
        for words, looks, examples, text, number in CLOSE_CASES:
            with self.subTest(words=words, looks=looks, examples=examples, text=text):
                spread = program_spread(words, looks, examples, text)
                self.assertEqual(len(spread), number)
                if number <= 40:
                    told = answers(keep(words, looks, examples), text)
                    assert_same(self, told, ("all", in_order(spread)))
                    self.assertEqual(len(told[1]), number)
                else:
                    self.assert_many(words, looks, examples, text)

    def test_very_many_answers(self):
        for words, looks, examples, text in MANY_CASES:
            with self.subTest(words=words, looks=looks, examples=examples, text=text):
                self.assert_many(words, looks, examples, text)

    def test_silent_ahead_of_very_many_answers(self):
        # The first piece is the figure, which the text has not, whatever the pieces behind it would answer.
        text = "A-b-C d.E"
        self.assert_many([], [], [("abc1def", "abc1def")], text)
        for looks in ([], [("has", "small")]):
            kept = keep([], looks, [("abc1def", "1abc1def")])
            self.assertGreater(left(kept), 1000)
            assert_same(self, answers(kept, text), ("all", [(None, left(kept))]))
            self.assertIsNone(apart(kept, text))


class ApartTest(SpreadsTest):
    def assert_apart(self, words, looks, examples, text):
        kept = keep(words, looks, examples)
        told = apart(kept, text)
        self.assertEqual((type(told), len(told)), (tuple, 2))
        for program in told:
            self.assert_left(kept, program, words, looks, examples)
        self.assertNotEqual(run(told[0], text), run(told[1], text))

    def test_two_programs_that_answer_unlike(self):
        told = 0
        for words, looks, examples, text in SPREAD_CASES:
            with self.subTest(words=words, looks=looks, examples=examples, text=text):
                if len(program_spread(words, looks, examples, text)) > 1:
                    self.assert_apart(words, looks, examples, text)
                    told += 1
                else:
                    self.assertIsNone(apart(keep(words, looks, examples), text))
        self.assertGreater(told, 10)
        self.assertLess(told, len(SPREAD_CASES) - 4)

    def test_with_very_many_answers(self):
        for words, looks, examples, text in MANY_CASES:
            with self.subTest(words=words, looks=looks, examples=examples, text=text):
                self.assert_apart(words, looks, examples, text)
        for words, looks, examples, text, number in CLOSE_CASES:
            with self.subTest(words=words, looks=looks, examples=examples, text=text):
                self.assert_apart(words, looks, examples, text)

    def test_none_where_all_answer_alike(self):
        self.assertIsNone(apart(keep([], [], []), ""))
        self.assertIsNone(apart(keep(["q"], [], [("", "q")]), LONGEST))
        for words, looks, examples in KEEP_CASES:
            for text, answer in examples:
                self.assertIsNone(apart(keep(words, looks, examples), text))

    def test_none_where_nothing_is_left(self):
        for words, looks, examples in EMPTY_KEEP_CASES:
            for text in ("", "a", LONGEST):
                self.assertIsNone(apart(keep(words, looks, examples), text))

    def test_a_do_and_an_if_program(self):
        # One program of each sort is left, and they differ by the look alone.
        looks = [("has", "figure"), ("begins", "figure")]
        kept = keep(["yes", "no"], looks, [("", "no"), ("7", "yes")])
        self.assertEqual(left(kept), 2)
        told = apart(kept, "a7")
        self.assertEqual({program[1] for program in told}, set(looks))
        self.assertEqual({run(program, "a7") for program in told}, {"yes", "no"})
        self.assertIsNone(apart(kept, "7a"))
        self.assertIsNone(apart(kept, "a"))


def rest_of(kept, text):
    """By what answers tells: the greatest number of programs that answer alike, None for a text that is passed over."""
    told = answers(kept, text)
    return max([number for answer, number in told[1]], default=0) if told[0] == "all" else None


class QuestionTest(SpreadsTest):
    def wanted(self, kept, texts):
        rests = [rest_of(kept, text) for text in texts]
        told = [rest for rest in rests if rest is not None]
        if left(kept) == 0 or not told or min(told) == left(kept):
            return None
        return texts[rests.index(min(told))]

    def test_the_first_one_whose_rest_is_least(self):
        texts = ["", "7", "a", "Ada", "Kurt Godel", "A1bc2", "x-1", "12"]
        chosen = []
        for words, looks, examples in KEEP_CASES:
            with self.subTest(words=words, looks=looks, examples=examples):
                kept = keep(words, looks, examples)
                for asked in (texts, texts[::-1], texts[3:] + texts[:3], texts[:1], texts[5:], texts[2:4]):
                    told = question(kept, asked)
                    assert_same(self, told, self.wanted(kept, asked))
                    chosen.append(told)
        self.assertGreater(len(set(chosen)), 3)
        self.assertIn(None, chosen)

    def test_by_hand(self):
        # Two programs are left, and they answer a text with a figure behind another sign unlike.
        kept = keep(["yes", "no"], [("has", "figure"), ("begins", "figure")], [("", "no"), ("7", "yes")])
        assert_same(self, question(kept, ["a7", "b7"]), "a7")
        assert_same(self, question(kept, ["b7", "a7"]), "b7")
        assert_same(self, question(kept, ["", "77", "a", "b7", "a7", "7"]), "b7")
        self.assertIsNone(question(kept, ["", "77", "a", "7a"]))
        self.assertIsNone(question(kept, ["7"]))
        # But three rows answer to no signs, many more to a figure.
        kept = keep(["q"], [], [])
        self.assertGreater(rest_of(kept, ""), rest_of(kept, "7"))
        for texts in (["", "7"], ["7", ""]):
            assert_same(self, question(kept, texts), "7")

    def test_the_first_of_those_that_are_as_good(self):
        kept = keep([], [], [])
        self.assertEqual(rest_of(kept, "7"), rest_of(kept, "3"))
        assert_same(self, question(kept, ["", "7", "3", "-"]), "7")
        assert_same(self, question(kept, ["", "3", "7", "-"]), "3")
        assert_same(self, question(kept, ["-", "3", "7", ""]), "-")

    def test_a_text_that_is_passed_over(self):
        kept = keep([], [], [])
        assert_same(self, question(kept, [LONGEST, "7", "abc"]), "7")
        assert_same(self, question(kept, ["7", LONGEST]), "7")
        # A text with just forty answers is asked about, one with forty-one is not.
        for words, looks, examples, text, number in CLOSE_CASES:
            with self.subTest(words=words, looks=looks, examples=examples, text=text):
                told = question(keep(words, looks, examples), [text])
                self.assertEqual(told, text if number <= 40 else None)

    def test_all_are_passed_over(self):
        self.assertIsNone(question(keep([], [], []), [LONGEST]))
        self.assertIsNone(question(keep([], [], []), [LONGEST, "abc", "Ada"]))
        self.assertIsNone(question(keep(SIX_WORDS, THREE_LOOKS, []), list(LONG_TEXTS) + ["", "a"]))
        for words, looks, examples, text in MANY_CASES:
            self.assertIsNone(question(keep(words, looks, examples), [text]))

    def test_all_answer_alike_or_are_passed_over(self):
        kept = keep([], [], [])
        self.assertIsNone(question(kept, [""]))
        self.assertIsNone(question(kept, ["", LONGEST]))
        self.assertIsNone(question(kept, [LONGEST, ""]))
        for words, looks, examples in KEEP_CASES:
            if examples:
                texts = [text for text, answer in examples]
                self.assertIsNone(question(keep(words, looks, examples), texts))

    def test_nothing_is_left(self):
        for words, looks, examples in EMPTY_KEEP_CASES:
            for texts in ([""], ["a", "b"], [LONGEST, "x"], ["a"] * 8):
                self.assertIsNone(question(keep(words, looks, examples), texts))

    def test_eight_texts_at_the_bounds(self):
        examples = [(text, text.lower() * 3) for text in LONG_TEXTS]
        kept = keep(SIX_WORDS, THREE_LOOKS, examples)
        self.assertGreater(left(kept), 0)
        texts = [text[::-1] for text in LONG_TEXTS] + [LONGEST.upper(), "aA1-" * 6]
        self.assertEqual(question(kept, texts), self.wanted(kept, texts))


class OrderAndOwnersTest(SpreadsTest):
    TEXTS = ["", "7", "aB", "Ada", "A1bc2", LONGEST, "Kurt Godel", "x-1"]

    def told(self, kept):
        spreads = [(answers(kept, text), apart(kept, text)) for text in self.TEXTS]
        return spreads, [question(kept, self.TEXTS[number:]) for number in range(8)]

    def test_the_order_of_the_examples_changes_nothing(self):
        cases = (
            ([". "], [("begins", "great")], NAMES),
            (["-"], [("has", "figure")], [("ab", "AB"), ("a1", "a1-"), ("22", "22-")]),
            (["yes", "no"], THREE_LOOKS, [("a1", "yes"), ("b", "no"), ("77", "yes")]),
        )
        for words, looks, examples in cases:
            wanted = self.told(keep(words, looks, examples))
            for other in itertools.permutations(examples):
                with self.subTest(words=words, looks=looks, examples=other):
                    assert_same(self, self.told(keep(words, looks, list(other))), wanted)

    def test_lists_that_are_told_are_the_askers_own(self):
        kept = keep(["-"], [("has", "figure")], [("ab", "AB"), ("a1", "a1-")])
        wanted = self.told(kept)
        for text in self.TEXTS:
            first = answers(kept, text)
            second = answers(kept, text)
            assert_same(self, first, second)
            second[1].clear()
            second[1].append(None)
            self.assertNotEqual(first, second)
            assert_same(self, answers(kept, text), first)
        assert_same(self, self.told(kept), wanted)

    def test_what_is_handed_in_stays_as_it_is(self):
        kept = keep(["-"], [("has", "figure")], [("ab", "AB"), ("a1", "a1-")])
        texts = list(self.TEXTS)
        question(kept, texts)
        self.assertEqual(texts, self.TEXTS)

    def test_what_is_done_to_it_behind_the_call_changes_nothing(self):
        for words, looks, examples in KEEP_CASES[:12]:
            with self.subTest(words=words, looks=looks, examples=examples):
                wanted = self.told(keep(words, looks, examples))
                own = (list(words), list(looks), list(examples))
                kept = keep(*own)
                for things in own:
                    things.clear()
                assert_same(self, self.told(kept), wanted)

    def test_somewhat_beyond_the_bounds_nothing_is_refused(self):
        kept = keep(["-"], [("has", "figure")], [("ab", "AB"), ("a1", "a1-")])
        text = "abcdefghijklmnopqrstuvwxyz0123"
        self.assertEqual(answers(kept, text)[0], "many")
        self.assertEqual(len(apart(kept, text)), 2)
        texts = [text] + self.TEXTS + ["7-", "-7"]
        self.assertEqual(question(kept, texts), QuestionTest.wanted(self, kept, texts))


if __name__ == "__main__":
    unittest.main()
