import copy
import unittest

from byexample.errors import NoProgram
from byexample.places import all_places
from byexample.programs import check, holds, price, run

from helper import assert_refused, assert_same

KINDS = ("small", "great", "figure", "mark", "any")
LOOKS = [(word, kind) for word in ("has", "begins") for kind in KINDS]
DEEDS = ("copy", "raise", "sink")
WORDS = (
    "a", "z", "A", "Z", "0", "9", " ", "-", ".", ",", "/", "ab", "abcdefgh", "ABCDEFGH", "01234567", " -.,/ --",
    "aB3 -9.Z", "        ", "do", "word", "else",
)

BEGIN = ("any", 1, "ahead")
END = ("any", -1, "behind")
WHOLE = ("copy", BEGIN, END)
GREAT = ("raise", ("small", 2, "ahead"), ("figure", -2, "behind"))
SMALL = ("sink", ("great", -1, "behind"), ("mark", 1, "ahead"))
DASH = ("word", "-")
LONG = ("word", "aB3 -9.Z")
ROWS = ((WHOLE,), (LONG,), (GREAT, DASH), (WHOLE, GREAT, SMALL), (DASH, DASH, DASH), (SMALL, LONG, WHOLE))


class EqualToAll:
    __hash__ = None

    def __eq__(self, other):
        return True


NOT_PLACES = (
    (None, 1, "ahead"), ("", 1, "ahead"), ("Small", 1, "ahead"), ("letter", 1, "ahead"), (EqualToAll(), 1, "ahead"),
    (["any"], 1, "ahead"), ("any", True, "ahead"), ("any", 0, "ahead"), ("any", 3, "ahead"), ("any", -3, "ahead"),
    ("any", 1.0, "ahead"), ("any", "1", "ahead"), ("any", None, "ahead"), ("any", [1], "ahead"),
    ("any", EqualToAll(), "ahead"), ("any", 1, "before"), ("any", 1, ""), ("any", 1, None), ("any", 1, "Ahead"),
    ("any", 1, EqualToAll()), ("any", 1), ("any", 1, "ahead", "behind"), (), ["any", 1, "ahead"], "any 1 ahead", None,
    1, True, {"any": 1}, EqualToAll(),
)
NOT_WORDS = (
    "", "abcdefghi", "         ", "a" * 24, "a" * 1000, "a_b", "_", "a\n", "\t", "a+b", "%", "\xe9", "\u0663", "\ud800",
    None, True, 1, 1.0, b"a", ["a"], ("a",), {"a": "a"}, EqualToAll(),
)
NOT_DEEDS = (
    "", "Copy", "copies", "word", "do", "raise ", "lower", None, True, 0, ("copy",), ["copy"], b"copy", EqualToAll(),
)
NOT_PIECES = tuple(
    [("copy", place, END) for place in NOT_PLACES] + [("sink", BEGIN, place) for place in NOT_PLACES]
    + [("word", word) for word in NOT_WORDS] + [(deed, BEGIN, END) for deed in NOT_DEEDS]
) + (
    (), ("word",), ("word", "a", "b"), ("Word", "a"), ("words", "a"), ("copy", "a"), ("a", "word"), ("do", "a"),
    (None, "a"), (EqualToAll(), "a"), ("copy",), ("copy", BEGIN), ("copy", BEGIN, END, END), ("copy", BEGIN, END, None),
    (BEGIN, END), (BEGIN, END, "copy"), ("copy", "any 1 ahead", "any -1 behind"), ["word", "a"], ["copy", BEGIN, END],
    "word", "a", "", None, True, 0, 1.5, b"word", {"word": "a"}, {0: "word", 1: "a"}, EqualToAll(), (WHOLE,),
)
NOT_ROWS = (
    (), [WHOLE], [], (DASH, DASH, DASH, DASH), (WHOLE,) * 5, (WHOLE,) * 100000, WHOLE, DASH, "a", "", None, True, 1,
    {0: WHOLE}, {WHOLE: 1}, {WHOLE}, EqualToAll(), ((WHOLE,),), ([WHOLE],), ("do", (WHOLE,)),
)
NOT_LOOKS = (
    (), ("has",), ("any",), ("has", "any", "any"), ("any", "has"), ["has", "any"], ("Has", "any"), ("ends", "any"),
    ("begin", "any"), ("has", "Any"), ("has", "letter"), ("has", ""), ("has", None), ("has", 1), ("has", ["any"]),
    ("has", EqualToAll()), (EqualToAll(), "any"), (None, "any"), ("", "any"), (["has"], "any"), "has any", "has", None,
    True, 1, {"has": "any"}, EqualToAll(), (("has", "any"),),
)
OTHER_THINGS = (
    None, True, False, 0, 1, -1, 10 ** 5000, 1.5, float("nan"), "", "do", "do word a", "if", b"do", [],
    ["do", (WHOLE,)], ["if", ("has", "any"), (WHOLE,), (DASH,)], {}, {"do": (WHOLE,)}, {0: "do", 1: (WHOLE,)}, set(),
    {"do"}, (), range(2), object(), tuple, len, EqualToAll(), iter(()),
)


def do(row):
    return ("do", row)


def spoilt_rows(row, spoilt):
    return [row[:number] + (spoilt,) + row[number + 1:] for number in range(len(row))]


class CheckTest(unittest.TestCase):
    def assert_program(self, thing):
        for again in range(2):
            self.assertIs(check(thing), True)

    def assert_none(self, things):
        for number, thing in enumerate(things):
            with self.subTest(number):
                assert_refused(self, NoProgram, check, thing)

    def test_rows_of_one_two_and_three_pieces(self):
        for row in ROWS:
            with self.subTest(row):
                self.assert_program(do(row))
                for other in ROWS:
                    self.assert_program(("if", ("has", "figure"), row, other))

    def test_each_look(self):
        self.assertEqual(len(LOOKS), 10)
        for look in LOOKS:
            with self.subTest(look):
                self.assert_program(("if", look, (WHOLE,), (DASH, SMALL)))

    def test_each_word(self):
        for word in WORDS:
            with self.subTest(word):
                self.assert_program(do((("word", word),)))
                self.assert_program(("if", ("begins", "any"), (("word", word), WHOLE), (WHOLE, DASH, ("word", word))))

    def test_each_deed_with_each_place(self):
        for deed in DEEDS:
            for place in all_places():
                with self.subTest(deed=deed, place=place):
                    self.assert_program(do(((deed, place, END),)))
                    self.assert_program(do(((deed, BEGIN, place),)))
                    self.assert_program(("if", ("has", "mark"), (DASH,), (WHOLE, (deed, place, place))))

    def test_a_program_that_never_answers_is_one(self):
        self.assert_program(do((("copy", END, BEGIN),)))
        self.assert_program(("if", ("has", "any"), (("copy", BEGIN, BEGIN),), (("raise", END, BEGIN),)))

    def test_things_of_other_kinds(self):
        self.assert_none(OTHER_THINGS)

    def test_too_few_or_too_many_things(self):
        look = ("has", "any")
        self.assert_none([
            ("do",), ("if",), ("do", (WHOLE,), (WHOLE,)), ("do", (WHOLE,), None), ("do", look, (WHOLE,)),
            ("do", look, (WHOLE,), (DASH,)), ("if", (WHOLE,)), ("if", look), ("if", look, (WHOLE,)),
            ("if", (WHOLE,), (DASH,)), ("if", look, (WHOLE,), (DASH,), (DASH,)), ("if", look, (WHOLE,), (DASH,), None),
            ("if", look, (WHOLE,), "else", (DASH,)), ((WHOLE,),), (("do", (WHOLE,)),), (WHOLE,), WHOLE, DASH, look,
        ])
        self.assert_program(("if", look, (WHOLE,), (DASH,)))

    def test_another_word_first(self):
        look = ("has", "any")
        for word in ("", "Do", "DO", "do ", "dos", "else", "word", None, True, 0, b"do", ["do"], ("do",), EqualToAll()):
            self.assert_none([(word, (WHOLE,)), (word, look, (WHOLE,), (DASH,))])
        self.assert_none([("If", look, (WHOLE,), (DASH,)), ("if", (WHOLE,)), ("do", look, (WHOLE,), (DASH,))])
        self.assert_none([((WHOLE,), "do"), (look, "if", (WHOLE,), (DASH,))])

    def test_rows_that_are_none(self):
        look = ("begins", "small")
        for row in NOT_ROWS:
            self.assert_none([do(row), ("if", look, row, (DASH,)), ("if", look, (DASH,), row), ("if", look, row, row)])
        for pieces in ((WHOLE,), (WHOLE, DASH), (WHOLE, DASH, SMALL)):
            self.assert_program(do(pieces))
            self.assert_none([do(list(pieces)), do({piece: True for piece in pieces})])

    def test_looks_that_are_none(self):
        for look in NOT_LOOKS:
            self.assert_none([("if", look, (WHOLE,), (DASH,))])
        self.assert_program(("if", ("has", "any"), (WHOLE,), (DASH,)))

    def test_a_spoilt_piece_at_each_place_of_either_row(self):
        look = ("has", "great")
        rows = ((WHOLE,), (DASH, GREAT), (SMALL, LONG, WHOLE))
        for row in rows:
            self.assert_program(do(row))
            self.assert_program(("if", look, row, row))
            for spoilt in NOT_PIECES:
                for other in spoilt_rows(row, spoilt):
                    self.assert_none([do(other), ("if", look, other, row), ("if", look, row, other)])

    def test_what_is_handed_in_stays_as_it_is(self):
        things = [
            ["do", [["word", "a"]]], {"do": [1]}, ("do", [DASH]), ("do", (["word", "a"],)), ("if", ["has"], [], {}),
        ]
        kept = copy.deepcopy(things)
        self.assert_none(things)
        self.assertEqual(things, kept)
        row = [DASH]
        assert_refused(self, NoProgram, check, ("do", row))
        row.clear()
        self.assert_program(("do", (DASH,)))


class HoldsTest(unittest.TestCase):
    # For each text: the kinds that it has, and the kinds that it begins with.
    KINDS_BY_TEXT = {
        "": ("", ""),
        "a": ("small any", "small any"),
        "Q": ("great any", "great any"),
        "7": ("figure any", "figure any"),
        " ": ("mark any", "mark any"),
        "/": ("mark any", "mark any"),
        "aB": ("small great any", "small any"),
        "Ba": ("small great any", "great any"),
        "1-": ("figure mark any", "figure any"),
        "-1": ("figure mark any", "mark any"),
        "abc, Def": ("small great mark any", "small any"),
        ".ZZ9": ("great figure mark any", "mark any"),
        "Ada Byron, 1815": ("small great figure mark any", "great any"),
        "12345678901234567890123z": ("small figure any", "figure any"),
        " " * 24: ("mark any", "mark any"),
    }

    def test_each_look_on_each_text(self):
        for text, told in self.KINDS_BY_TEXT.items():
            for kind in KINDS:
                with self.subTest(text=text, kind=kind):
                    for again in range(2):
                        self.assertIs(holds(("has", kind), text), kind in told[0].split())
                        self.assertIs(holds(("begins", kind), text), kind in told[1].split())


class RunTest(unittest.TestCase):
    FIRST = ("copy", ("great", 1, "ahead"), ("great", 1, "behind"))
    LAST = ("raise", ("great", 2, "ahead"), ("small", -1, "behind"))
    YEAR = ("sink", ("figure", 1, "ahead"), ("figure", -1, "behind"))

    def assert_answers(self, program, answers):
        for text, told in answers.items():
            with self.subTest(program=program, text=text):
                for again in range(2):
                    assert_same(self, run(program, text), told)

    def test_do(self):
        self.assert_answers(do((self.FIRST, ("word", ". "), self.LAST)), {
            "Ada Byron": "A. BYRON", "ada byron": None, "": None, "Ada": None, "Alan M Turing": "A. M TURING",
        })
        self.assert_answers(do((WHOLE,)), {"": None, "a": "a", "Ada, 1815": "Ada, 1815", "x" * 24: "x" * 24})
        self.assert_answers(do((DASH,)), {"": "-", "Ada": "-"})
        self.assert_answers(do((DASH, ("copy", END, BEGIN))), {"": None, "Ada": None})

    def test_an_answer_of_seventy_two_signs(self):
        text = "abcdefgh ABCDEFGH 012345"
        row = (WHOLE, ("raise", BEGIN, END), ("sink", BEGIN, END))
        self.assert_answers(do(row), {text: text + text.upper() + text.lower()})

    def test_if_with_has(self):
        program = ("if", ("has", "figure"), (self.YEAR, DASH), (self.FIRST,))
        self.assert_answers(program, {
            "Ada Byron, 1815": "1815-", "1": "1-", "Ada": "A", "xyZ.": "Z", "x": None, "": None, "a1b2": "1b2-",
        })

    def test_if_with_begins(self):
        program = ("if", ("begins", "small"), (("raise", BEGIN, ("any", 1, "behind")),), (WHOLE, DASH))
        self.assert_answers(program, {"ada": "A", "Ada": "Ada-", "1a": "1a-", "a": "A", "": None, "-a": "-a-"})

    def test_each_look_goes_either_way(self):
        texts = ("", "a", "B", "3", ",", "aB", "Ba", "3,", ",3", "a3", "Ada Byron, 1815", "x-Y.Z/9")
        for look in LOOKS:
            program = ("if", look, (("word", "yes"),), (("word", "no"),))
            self.assert_answers(program, {text: "yes" if holds(look, text) else "no" for text in texts})

    def test_where_the_row_that_is_gone_does_not_answer_the_other_is_not_asked(self):
        silent = (("copy", END, BEGIN),)
        self.assert_answers(("if", ("has", "figure"), silent, (DASH,)), {"1": None, "a": "-", "": "-"})
        self.assert_answers(("if", ("has", "figure"), (DASH,), silent), {"1": "-", "a": None, "": None})
        self.assert_answers(("if", ("begins", "any"), silent, silent), {"1": None, "": None})

    def test_the_text_of_no_signs_goes_the_other_way(self):
        for look in LOOKS:
            self.assert_answers(("if", look, (DASH,), (LONG,)), {"": "aB3 -9.Z"})


class PriceTest(unittest.TestCase):
    def assert_price(self, program, told):
        with self.subTest(program):
            for again in range(2):
                assert_same(self, price(program), told)

    def test_do(self):
        self.assert_price(do((WHOLE,)), 2)
        self.assert_price(do((DASH,)), 5)
        self.assert_price(do((LONG,)), 19)
        self.assert_price(do((GREAT,)), 2 + 4 + 4)
        self.assert_price(do((SMALL,)), 2 + 2 + 2)
        self.assert_price(do((GREAT, DASH)), 15)
        self.assert_price(do((WHOLE, GREAT, SMALL)), 18)

    def test_if(self):
        for kind in KINDS:
            self.assert_price(("if", ("has", kind), (WHOLE,), (WHOLE,)), 9)
            self.assert_price(("if", ("begins", kind), (WHOLE,), (WHOLE,)), 10)
            self.assert_price(("if", ("has", kind), (WHOLE,), (LONG, DASH)), 31)
            self.assert_price(("if", ("begins", kind), (LONG, DASH), (WHOLE,)), 32)
            self.assert_price(("if", ("has", kind), (WHOLE, GREAT, SMALL), (GREAT, DASH)), 38)
            self.assert_price(("if", ("begins", kind), (GREAT, DASH), (SMALL, LONG, WHOLE)), 48)


if __name__ == "__main__":
    unittest.main()
