import itertools
import unittest

from byexample.errors import NoExample, NoNumber, NothingFits, Twice
from byexample.keeper import Keeper
from byexample.keeping import keep, least, left, number_of, program_at
from byexample.programs import run
from byexample.spreads import answers, apart, question

from helper import BEGIN, EMPTY_KEEP_CASES, END, KEEP_CASES, LONGEST, NAMES, SIX, SIX_WORDS, THREE_LOOKS, WHOLE
from helper import assert_refused, assert_same, some_numbers

TEXTS = ["", "7", "aB", "Ada", "A1bc2", LONGEST, "Kurt Godel", "x-1"]
ROWS = ((WHOLE,), (("word", "-"),), (WHOLE, ("word", "-")), (("raise", BEGIN, END),), (("word", "x"),))


def told_by_keep(kept):
    numbers = some_numbers(left(kept))[::16]
    programs = [program_at(kept, number) for number in numbers]
    asked = programs + [("do", row) for row in ROWS] + [("if", ("has", "figure"), row, ROWS[0]) for row in ROWS]
    told = [left(kept), programs, [number_of(kept, program) for program in asked]]
    told += [answers(kept, text) for text in TEXTS] + [apart(kept, text) for text in TEXTS]
    told += [question(kept, TEXTS[number:]) for number in range(len(TEXTS))]
    return told + ([least(kept)] if left(kept) > 0 else [])


def told_by_keeper(keeper):
    numbers = some_numbers(keeper.left())[::16]
    programs = [keeper.program_at(number) for number in numbers]
    asked = programs + [("do", row) for row in ROWS] + [("if", ("has", "figure"), row, ROWS[0]) for row in ROWS]
    told = [keeper.left(), programs, [keeper.number_of(program) for program in asked]]
    told += [keeper.answers(text) for text in TEXTS] + [keeper.apart(text) for text in TEXTS]
    told += [keeper.question(TEXTS[number:]) for number in range(len(TEXTS))]
    return told + ([keeper.least()] if keeper.left() > 0 else [])


def keeper_of(words, looks, examples):
    keeper = Keeper(words, looks)
    for text, answer in examples:
        keeper.put(text, answer)
    return keeper


class KeeperTest(unittest.TestCase):
    def assert_tells(self, keeper, words, looks, examples):
        """The keeper tells what a keep tells that was made of just these."""
        kept = keep(words, looks, examples)
        assert_same(self, keeper.examples(), examples)
        assert_same(self, told_by_keeper(keeper), told_by_keep(kept))
        for number in (-1, left(kept), left(kept) + 1, 10 ** 60):
            assert_refused(self, NoNumber, keeper.program_at, number)
        if left(kept) == 0:
            assert_refused(self, NothingFits, keeper.least)


class PutAndTakeTest(KeeperTest):
    def test_what_a_keep_tells(self):
        for words, looks, examples in KEEP_CASES + EMPTY_KEEP_CASES:
            with self.subTest(words=words, looks=looks, examples=examples):
                self.assert_tells(keeper_of(words, looks, examples), words, looks, list(examples))

    def test_after_each_deed(self):
        words, looks = ["-", "a"], [("has", "figure")]
        examples = [("ab", "AB"), ("a1", "a1-"), ("22", "22-"), ("q", "Q")]
        keeper = Keeper(words, looks)
        self.assert_tells(keeper, words, looks, [])
        for number, example in enumerate(examples):
            keeper.put(*example)
            self.assert_tells(keeper, words, looks, examples[:number + 1])
        keeper.take("a1")
        self.assert_tells(keeper, words, looks, [examples[0], examples[2], examples[3]])
        keeper.put("a1", "-a1")
        self.assert_tells(keeper, words, looks, [examples[0], examples[2], examples[3], ("a1", "-a1")])
        keeper.take("q")
        keeper.take("ab")
        keeper.take("a1")
        self.assert_tells(keeper, words, looks, [examples[2]])
        keeper.take("22")
        self.assert_tells(keeper, words, looks, [])
        keeper.put("22", "22-")
        self.assert_tells(keeper, words, looks, [examples[2]])

    def test_several_orders(self):
        words, looks = [". ", "-"], [("begins", "great"), ("has", "figure")]
        examples = NAMES[:2] + [("12", "1-2")]
        wanted = told_by_keep(keep(words, looks, examples))
        for order in itertools.permutations(examples):
            keeper = keeper_of(words, looks, order)
            assert_same(self, keeper.examples(), list(order))
            assert_same(self, told_by_keeper(keeper), wanted)
            for other in order:
                keeper.take(other[0])
                keeper.left()
                keeper.put(*other)
            assert_same(self, told_by_keeper(keeper), wanted)
            keeper.take(order[1][0])
            keeper.put("Emmy Noether", "E. NOETHER")
            keeper.take("Emmy Noether")
            keeper.put(*order[1])
            assert_same(self, keeper.examples(), [order[0], order[2], order[1]])
            assert_same(self, told_by_keeper(keeper), wanted)

    def test_a_text_that_stands_already(self):
        for asked in (False, True):
            keeper = keeper_of([". "], None, NAMES)
            if asked:
                keeper.left()
            for text, answer in NAMES:
                for other in (answer, "", "x", answer + "x", text):
                    assert_refused(self, Twice, keeper.put, text, other)
            self.assert_tells(keeper, [". "], [], NAMES)
            keeper.take("Alan Turing")
            assert_refused(self, Twice, keeper.put, "Ada Byron", "A. BYRON")
            keeper.put("Alan Turing", "x")
            assert_refused(self, Twice, keeper.put, "Alan Turing", "A. TURING")
            self.assert_tells(keeper, [". "], [], [NAMES[0], NAMES[2], ("Alan Turing", "x")])

    def test_a_text_that_does_not_stand(self):
        keeper = Keeper(["a"])
        assert_refused(self, NoExample, keeper.take, "")
        assert_refused(self, NoExample, keeper.take, "a")
        self.assert_tells(keeper, ["a"], [], [])
        keeper.put("", "a")
        keeper.put("b", "ba")
        for text in ("a", "ba", "B", " ", "b "):
            assert_refused(self, NoExample, keeper.take, text)
        self.assert_tells(keeper, ["a"], [], [("", "a"), ("b", "ba")])
        keeper.take("")
        assert_refused(self, NoExample, keeper.take, "")
        self.assert_tells(keeper, ["a"], [], [("b", "ba")])

    def test_twice_also_where_nothing_is_left(self):
        keeper = keeper_of(["a"], None, [("x", ""), ("y", "a")])
        assert_refused(self, Twice, keeper.put, "x", "a")
        assert_refused(self, Twice, keeper.put, "y", "a")
        assert_refused(self, NoExample, keeper.take, "z")
        self.assert_tells(keeper, ["a"], [], [("x", ""), ("y", "a")])

    def test_six_examples_at_the_bounds(self):
        keeper = keeper_of(SIX_WORDS, THREE_LOOKS, SIX)
        self.assertEqual(run(keeper.least(), "Carl Gauss, 1777"), "1777- Gauss")
        texts = [text for text, answer in SIX]
        self.assertIsNone(keeper.question(texts))
        self.assertEqual(keeper.fill(texts), ([answer for text, answer in SIX], []))


class OwnersTest(KeeperTest):
    def test_looks_left_out(self):
        for keeper in (Keeper(["-", "a"]), Keeper(["-", "a"], None), Keeper(["-", "a"], []), Keeper(words=["-", "a"])):
            self.assert_tells(keeper, ["-", "a"], [], [])
            keeper.put("ab", "ab-")
            self.assert_tells(keeper, ["-", "a"], [], [("ab", "ab-")])
            keeper.put("AB", "-AB")
            self.assertEqual(keeper.left(), 0)
        keeper = Keeper(looks=[("has", "small")], words=["-"])
        self.assert_tells(keeper, ["-"], [("has", "small")], [])

    def test_what_is_done_to_what_was_handed_in_changes_nothing(self):
        examples = [("ab", "AB"), ("a1", "a1-")]
        for spoil in (list.clear, list.reverse, lambda things: things.append(None)):
            words, looks = ["-", "a"], [("has", "figure"), ("begins", "small")]
            keeper = Keeper(words, looks)
            spoil(words)
            spoil(looks)
            for example in examples:
                keeper.put(*example)
            texts = ["a2", "b", ""]
            keeper.fill(texts)
            keeper.question(texts)
            self.assertEqual(texts, ["a2", "b", ""])
            spoil(texts)
            self.assert_tells(keeper, ["-", "a"], [("has", "figure"), ("begins", "small")], examples)
            keeper.take("ab")
            self.assert_tells(keeper, ["-", "a"], [("has", "figure"), ("begins", "small")], examples[1:])

    def test_what_is_handed_in_stays_as_it_is(self):
        words, looks = ["-", "a"], [("has", "figure"), ("begins", "small")]
        keeper = keeper_of(words, looks, [("ab", "AB"), ("a1", "a1-")])
        told_by_keeper(keeper)
        keeper.fill(TEXTS)
        keeper.stuck()
        assert_same(self, (words, looks), (["-", "a"], [("has", "figure"), ("begins", "small")]))

    def test_lists_that_are_told_are_the_askers_own(self):
        examples = [("ab", "AB"), ("a1", "a1-")]
        keeper = keeper_of(["-"], [("has", "figure")], examples)
        told = keeper.examples()
        spread = keeper.answers("aB")
        filled = keeper.fill(["a2", "", "b"])
        kept = (list(told), (spread[0], list(spread[1])), (list(filled[0]), list(filled[1])))
        keeper.put("q", "Q")
        keeper.take("ab")
        keeper.put("22", "22-")
        keeper.fill(["7"])
        keeper.answers("aB")
        assert_same(self, (told, spread, filled), kept)
        keeper.take("q")
        keeper.take("22")
        keeper.put("ab", "AB")
        for things in (told, spread[1], filled[0], filled[1]):
            things.clear()
            things.append("x")
        self.assert_tells(keeper, ["-"], [("has", "figure")], [examples[1], examples[0]])
        assert_same(self, keeper.answers("aB"), kept[1])
        assert_same(self, keeper.fill(["a2", "", "b"]), kept[2])
        keeper.examples().clear()
        assert_same(self, keeper.examples(), [examples[1], examples[0]])

    def test_two_keepers_side_by_side(self):
        first = Keeper(["-"], [("has", "figure")])
        second = Keeper(["-"], [("has", "figure")])
        first.put("ab", "ab-")
        self.assert_tells(second, ["-"], [("has", "figure")], [])
        second.put("ab", "AB")
        self.assert_tells(first, ["-"], [("has", "figure")], [("ab", "ab-")])
        second.put("12", "12-")
        first.take("ab")
        self.assert_tells(first, ["-"], [("has", "figure")], [])
        self.assert_tells(second, ["-"], [("has", "figure")], [("ab", "AB"), ("12", "12-")])
        assert_refused(self, NoExample, first.take, "ab")
        self.assertEqual(Keeper([]).examples(), [])

    def test_words_and_looks_shared_by_two_keepers(self):
        words, looks = ["-"], [("has", "figure")]
        first, second = Keeper(words, looks), Keeper(words, looks)
        first.put("ab", "ab-")
        words.append("a")
        looks.clear()
        self.assert_tells(second, ["-"], [("has", "figure")], [])
        self.assert_tells(first, ["-"], [("has", "figure")], [("ab", "ab-")])


class StuckTest(KeeperTest):
    def assert_stuck(self, words, looks, examples, text):
        keeper = keeper_of(words, looks, examples)
        for again in range(2):
            assert_same(self, keeper.stuck(), text)
        self.assertEqual(keeper.left() == 0, text is not None)
        assert_same(self, keeper.examples(), list(examples))

    def test_where_programs_are_left(self):
        for words, looks, examples in KEEP_CASES:
            with self.subTest(words=words, looks=looks, examples=examples):
                self.assert_stuck(words, looks, examples, None)

    def test_the_first_one_with_which_nothing_is_left(self):
        wrong = ("Emmy", "")
        self.assert_stuck([". "], None, [wrong], "Emmy")
        self.assert_stuck([". "], None, [wrong] + NAMES, "Emmy")
        self.assert_stuck([". "], None, NAMES + [wrong], "Emmy")
        self.assert_stuck([". "], None, NAMES[:1] + [wrong] + NAMES[1:], "Emmy")
        self.assert_stuck([". "], None, NAMES + [wrong, ("x", ""), ("y", "")], "Emmy")
        self.assert_stuck([], None, [("", "")], "")
        # Each one fits by itself, but not with those ahead.
        self.assert_stuck(["a", "b"], None, [("x", "a"), ("y", "b")], "y")
        self.assert_stuck(["a", "b"], None, [("y", "b"), ("x", "a")], "x")
        self.assert_stuck(["a", "b"], None, [("x", "a"), ("z", "a"), ("y", "b"), ("q", "b")], "y")
        self.assert_stuck(["a", "b"], None, [("x", "a"), ("y", "b"), ("z", "a"), ("q", "")], "y")

    def test_with_looks(self):
        examples = [("x", "a"), ("1", "b"), ("y", "a"), ("Y", "b"), ("2", "a")]
        self.assert_stuck(["a", "b"], [], examples, "1")
        self.assert_stuck(["a", "b"], [("has", "figure")], examples, "Y")
        self.assert_stuck(["a", "b"], [("has", "figure"), ("has", "small")], examples, "2")
        self.assert_stuck(["a", "b"], [("has", "figure"), ("has", "small")], examples[:4], None)
        self.assert_stuck(["a", "b"], [("has", "mark")], examples, "1")

    def test_taken_out_and_put_in_again(self):
        keeper = keeper_of(["a", "b"], None, [("x", "a"), ("y", "b")])
        self.assertEqual(keeper.stuck(), "y")
        keeper.take("x")
        self.assertIsNone(keeper.stuck())
        keeper.put("x", "a")
        self.assertEqual(keeper.stuck(), "x")
        keeper.put("z", "b")
        self.assertEqual(keeper.stuck(), "x")
        keeper.take("x")
        self.assertIsNone(keeper.stuck())
        keeper.put("x", "a")
        assert_same(self, keeper.examples(), [("y", "b"), ("z", "b"), ("x", "a")])
        self.assertEqual(keeper.stuck(), "x")
        keeper.take("y")
        self.assertEqual(keeper.stuck(), "x")
        keeper.take("z")
        self.assertIsNone(keeper.stuck())

    def test_no_examples(self):
        for looks in (None, [], THREE_LOOKS):
            self.assert_stuck([], looks, [], None)
        keeper = keeper_of([], None, [("a", "")])
        self.assertEqual(keeper.stuck(), "a")
        keeper.take("a")
        self.assertIsNone(keeper.stuck())

    def test_refusals_change_nothing(self):
        keeper = keeper_of(["a", "b"], None, [("x", "a"), ("y", "b")])
        assert_refused(self, Twice, keeper.put, "x", "b")
        assert_refused(self, NoExample, keeper.take, "z")
        self.assertEqual(keeper.stuck(), "y")


class FillTest(KeeperTest):
    def test_by_hand(self):
        keeper = keeper_of([". "], None, NAMES)
        texts = ["Emmy Noether", "", "Kurt Godel", "12", "Ada Byron"]
        told = keeper.fill(texts)
        assert_same(self, told, (["E. NOETHER", None, "K. GODEL", None, "A. BYRON"], [1, 3]))
        keeper = keeper_of(["no"], [("has", "any")], [("abc", "abc"), ("", "no")])
        assert_same(self, keeper.fill(["", "x", "x", "1-2"]), (["no", "x", "x", "1-2"], []))
        keeper = Keeper([])
        assert_same(self, keeper.fill(["", "", ""]), ([None, None, None], [0, 1, 2]))

    def test_by_the_least_program(self):
        texts = TEXTS + ["a2", "Emmy Noether", "", "B"]
        for words, looks, examples in KEEP_CASES:
            with self.subTest(words=words, looks=looks, examples=examples):
                keeper = keeper_of(words, looks, examples)
                program = least(keep(words, looks, examples))
                filled = [run(program, text) for text in texts]
                silent = [number for number in range(len(texts)) if filled[number] is None]
                assert_same(self, keeper.fill(texts), (filled, silent))
                own = [text for text, answer in examples]
                assert_same(self, keeper.fill(own), ([answer for text, answer in examples], []))

    def test_no_texts_and_twenty(self):
        for words, looks, examples in KEEP_CASES:
            assert_same(self, keeper_of(words, looks, examples).fill([]), ([], []))
        keeper = keeper_of([". "], None, NAMES)
        assert_same(self, keeper.fill(["Ada", ""] * 10)[1], list(range(1, 20, 2)))
        self.assertEqual(len(keeper.fill(["Ada"] * 25)[0]), 25)

    def test_nothing_is_left(self):
        for words, looks, examples in EMPTY_KEEP_CASES:
            with self.subTest(words=words, looks=looks, examples=examples):
                keeper = keeper_of(words, looks, examples)
                for texts in ([], ["a"], ["", LONGEST], [text for text, answer in examples], ["x"] * 20):
                    assert_refused(self, NothingFits, keeper.fill, texts)
                assert_same(self, keeper.examples(), list(examples))

    def test_filled_again_when_one_is_taken_out(self):
        keeper = keeper_of(["a", "b"], None, [("x", "a"), ("y", "b")])
        assert_refused(self, NothingFits, keeper.fill, [])
        keeper.take("x")
        assert_same(self, keeper.fill(["x", "y", ""]), (["b", "b", "b"], []))


if __name__ == "__main__":
    unittest.main()
