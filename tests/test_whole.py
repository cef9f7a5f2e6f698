import unittest

from byexample.keeper import Keeper
from byexample.keeping import keep, least, left, number_of, program_at
from byexample.notes import read, shown
from byexample.programs import price, run
from byexample.spreads import answers, apart

from helper import KEEP_CASES, LONG_TEXTS, LONGEST, SIX_WORDS, THREE_LOOKS
from helper import assert_same, program_fits, some_numbers

TEXTS = ("Ada Byron", "a1", "7", "x-Y", "", LONGEST, "Kurt Godel, 1906", "A1bc2")

# A program that answers each of some texts, with the words and looks that it is found by.
HIDDEN = (
    ([". "], [], "do copy great 1 ahead great 1 behind + word ._ + raise mark 1 behind any -1 behind",
     ["Ada Byron", "Alan Turing", "Kurt Godel", "Emmy A Noether", "x Y Z", "A-B 1", "Carl F G", "A a"]),
    (["yes", "no"], [("has", "small"), ("begins", "figure"), ("has", "figure")],
     "if has figure do word yes else do word no",
     ["a", "7", "A", "A7", "a-", "-7", "a7", ""]),
    (["-"], [("has", "figure"), ("begins", "small")],
     "if has figure do copy figure 1 ahead figure -1 behind + word - else do raise any 1 ahead any -1 behind",
     ["ab", "1", "12", "a1b2", "A", "-", "aB-1", "7x"]),
    (["x"], [("begins", "great")], "if begins great do sink any 1 ahead any 1 behind else do word x + word x",
     ["A", "a", "1", "AB", "bA", "", "Z9", "-"]),
)


class WrittenAndReadTest(unittest.TestCase):
    def test_programs_are_left_by_their_own_answers(self):
        for words, looks, examples in KEEP_CASES:
            with self.subTest(words=words, looks=looks, examples=examples):
                kept = keep(words, looks, examples)
                for number in some_numbers(left(kept))[::12]:
                    program = program_at(kept, number)
                    again = read(shown(program))
                    assert_same(self, again, program)
                    self.assertEqual(number_of(kept, again), number)
                    self.assert_left_by_its_answers(words, looks, again)

    def assert_left_by_its_answers(self, words, looks, program):
        keeper = Keeper(words, looks)
        number = keeper.left()
        for text in TEXTS[:6]:
            answer = run(program, text)
            if answer is not None:
                keeper.put(text, answer)
                self.assertLessEqual(keeper.left(), number)
                number = keeper.left()
        assert_same(self, keeper.program_at(keeper.number_of(program)), program)
        self.assertLessEqual(price(keeper.least()), price(program))
        self.assertIsNone(keeper.stuck())
        for text, answer in keeper.examples():
            self.assertEqual(run(keeper.least(), text), answer)

    def test_a_program_that_answers_another_way_is_not_left(self):
        row = "do copy figure 1 ahead any -1 behind + word a_b"
        program = read(f"if has figure {row} else do raise any 1 ahead any 2 behind")
        keeper = Keeper(["a b"], [("has", "figure")])
        for text in ("x1y", "ab", "22", "Q-r"):
            keeper.put(text, run(program, text))
        self.assertIsNotNone(keeper.number_of(program))
        keeper.put("abc", "AB-")
        self.assertIsNone(keeper.number_of(program))
        keeper.take("abc")
        self.assertIsNotNone(keeper.number_of(program))


class CountsTest(unittest.TestCase):
    def test_each_answer_put_in_leaves_as_many(self):
        for words, looks, examples in KEEP_CASES:
            kept = keep(words, looks, examples)
            for text in TEXTS:
                with self.subTest(words=words, looks=looks, examples=examples, text=text):
                    told = answers(kept, text)
                    pair = apart(kept, text)
                    self.assertEqual(pair is None, told[0] == "all" and len(told[1]) < 2)
                    if told[0] == "all" and text not in dict(examples):
                        for answer, number in told[1][:5]:
                            if answer is not None:
                                put = keep(words, looks, examples + [(text, answer)])
                                self.assertEqual(left(put), number)
                                self.assertEqual(run(least(put), text), answer)
                                self.assertGreaterEqual(price(least(put)), price(least(kept)))


class QuestionsTest(unittest.TestCase):
    def test_asked_and_answered_until_none_is_told(self):
        for words, looks, written, texts in HIDDEN:
            with self.subTest(written):
                program = read(written)
                keeper = Keeper(words, looks)
                keeper.put(texts[0], run(program, texts[0]))
                keeper.put(texts[1], run(program, texts[1]))
                chosen = keeper.question(texts)
                asked = 0
                while chosen is not None:
                    number = keeper.left()
                    rest = max(pair[1] for pair in keeper.answers(chosen)[1])
                    keeper.put(chosen, run(program, chosen))
                    self.assertLessEqual(keeper.left(), rest)
                    self.assertLess(keeper.left(), number)
                    asked += 1
                    chosen = keeper.question(texts)
                self.assertGreater(asked, 0)
                self.assertIsNotNone(keeper.number_of(program))
                for text in texts:
                    assert_same(self, keeper.answers(text), ("all", [(run(program, text), keeper.left())]))
                    self.assertIsNone(keeper.apart(text))
                self.assertEqual(keeper.fill(texts), ([run(program, text) for text in texts], []))

    def test_a_question_leaves_no_more_than_any_other_text(self):
        texts = ["", "7", "a", "A-", "b7", "Ada", "x", "12"]
        for words, looks, examples in KEEP_CASES:
            with self.subTest(words=words, looks=looks, examples=examples):
                keeper = Keeper(words, looks)
                for example in examples:
                    keeper.put(*example)
                told = [keeper.answers(text) for text in texts]
                rests = [max(pair[1] for pair in spread[1]) for spread in told if spread[0] == "all"]
                chosen = keeper.question(texts)
                if chosen is None:
                    self.assertEqual({rest for rest in rests if rest < keeper.left()}, set())
                else:
                    self.assertEqual(max(pair[1] for pair in keeper.answers(chosen)[1]), min(rests))


class NeverListedTest(unittest.TestCase):
    """Far more programs than could be gone through one by one."""

    def test_at_the_bounds(self):
        looks = [("has", "great"), ("begins", "small"), ("has", "figure")]
        for change in (str.upper, str.lower, str):
            examples = [(text, change(text) * 3) for text in LONG_TEXTS]
            keeper = Keeper(SIX_WORDS, looks)
            for example in examples:
                keeper.put(*example)
            program = keeper.program_at(keeper.left() - 1)
            self.assertTrue(program_fits(program, SIX_WORDS, looks, examples))
            self.assertEqual(keeper.number_of(program), keeper.left() - 1)
            keeper.question([text[::-1] for text in LONG_TEXTS] + ["a" * 24, "Aa" * 12])
            self.assertEqual([run(keeper.least(), text) for text in LONG_TEXTS], [answer for text, answer in examples])

    def test_with_no_examples(self):
        keeper = Keeper(SIX_WORDS, THREE_LOOKS)
        self.assertGreater(keeper.left(), 10 ** 22)
        for number in (0, 10 ** 11, 10 ** 17, keeper.left() - 1):
            self.assertEqual(keeper.number_of(keeper.program_at(number)), number)
        for text in LONG_TEXTS:
            self.assertEqual(keeper.answers(text)[0], "many")
            self.assertIsNotNone(keeper.apart(text))
        self.assertIsNone(keeper.question(list(LONG_TEXTS)))
        self.assertEqual(price(keeper.least()), 2)

    def test_examples_of_one_sign_over_and_over(self):
        words = ["a", "aa", "aaa", "aaaa", "A", "aaaaaaaa"]
        keeper = Keeper(words, THREE_LOOKS)
        keeper.put("aAaAaAaAaAaAaAaAaAaAaAaA", "a" * 72)
        keeper.put("AAaa", "a" * 12)
        self.assertGreater(keeper.left(), 10 ** 11)
        for text in ("a", "A", "aaA", "1", "", "aA" * 10):
            told = keeper.answers(text)
            if told[0] == "all":
                self.assertEqual(sum(number for answer, number in told[1]), keeper.left())
            else:
                self.assertEqual(len({run(program, text) for program in told[1]}), 41)


if __name__ == "__main__":
    unittest.main()
