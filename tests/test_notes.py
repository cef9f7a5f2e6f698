import unittest

from byexample.errors import NoProgram
from byexample.notes import read, shown
from byexample.places import all_places
from byexample.programs import check

from helper import assert_refused, assert_same

LOOKS = [(word, kind) for word in ("has", "begins") for kind in ("small", "great", "figure", "mark", "any")]
BEGIN = ("any", 1, "ahead")
END = ("any", -1, "behind")
WHOLE = ("copy", BEGIN, END)
DASH = ("word", "-")

# Each program beside the text by which it is written.
WRITTEN = (
    (("do", (WHOLE,)), "do copy any 1 ahead any -1 behind"),
    (("do", (("raise", ("small", 2, "behind"), ("mark", -2, "ahead")),)), "do raise small 2 behind mark -2 ahead"),
    (
        ("do", (("sink", ("great", -2, "ahead"), ("figure", 1, "behind")), DASH)),
        "do sink great -2 ahead figure 1 behind + word -",
    ),
    (("do", (DASH, DASH, DASH)), "do word - + word - + word -"),
    (
        ("do", (WHOLE, ("word", ", "), WHOLE)),
        "do copy any 1 ahead any -1 behind + word ,_ + copy any 1 ahead any -1 behind",
    ),
    (
        (
            "if", ("has", "figure"), (("copy", ("figure", 1, "ahead"), END), ("word", "a b")),
            (("raise", BEGIN, ("any", 2, "behind")),),
        ),
        "if has figure do copy figure 1 ahead any -1 behind + word a_b else do raise any 1 ahead any 2 behind",
    ),
    (
        ("if", ("begins", "mark"), (("word", "x"),), (("word", "y"), WHOLE, ("word", "z"))),
        "if begins mark do word x else do word y + copy any 1 ahead any -1 behind + word z",
    ),
    (
        ("if", ("begins", "any"), (DASH, DASH, DASH), (DASH, DASH, DASH)),
        "if begins any do word - + word - + word - else do word - + word - + word -",
    ),
)

# Blanks within, ahead, behind and alone; every kind of sign; words that the writing has its own use for.
WORDS = {
    "a": "a", " ": "_", "  ": "__", "        ": "________", "a b": "a_b", "a  b": "a__b", " a": "_a", "a ": "a_",
    " a b ": "_a_b_", ", ": ",_", " -.,/ --": "_-.,/_--", "aB3 -9.Z": "aB3_-9.Z", "Dr. Who ": "Dr._Who_", "1": "1",
    "-1": "-1", "01": "01", "do": "do", "if": "if", "else": "else", "word": "word", "copy": "copy", "has": "has",
    "any": "any", "ahead": "ahead", "else do": "else_do", "word a": "word_a", "--------": "--------",
}

NOT_WRITTEN = (
    "", " ", "  ", "d", "do", "do ", "if", "else", "word", "word a", "+", "_", "copy any 1 ahead any -1 behind",
    # Blanks.
    " do word a", "do word a ", "do  word a", "do word  a", "do word a  ", "  do word a", "do word a b", "do word  ",
    "do word", "do word ", "do word a + word b c", "doword a", "do worda", "do word a+ word b", "do word a +word b",
    "do word a  + word b", "do word a +  word b", "do copy any 1  ahead any -1 behind", "do\tword a", "do word a\n",
    "do copy any 1 ahead any -1 behind ", " do copy any 1 ahead any -1 behind", "do copy any 1 ahead  any -1 behind",
    "if has figure  do word a else do word b", "if has figure do word a  else do word b",
    "if  has any do word a else do word b",
    "if has any do word a else do word b ", " if has any do word a else do word b",
    # A missing word or another one.
    "Do word a", "DO word a", "to word a", "if word a", "do Word a", "do words a", "do text a", "do a",
    "do move any 1 ahead any -1 behind",
    "do Copy any 1 ahead any -1 behind", "do copy any 1 ahead any -1", "do copy any 1 ahead any behind",
    "do copy any 1 ahead -1 behind",
    "do copy any 1 ahead", "do copy any 1 any -1 behind", "do copy any ahead any -1 behind",
    "do copy 1 ahead any -1 behind",
    "do copy", "do copy any", "do any 1 ahead any -1 behind", "do copy any 1 before any -1 behind",
    "do copy any 1 ahead any -1 Behind",
    "do copy all 1 ahead any -1 behind", "do copy Any 1 ahead any -1 behind", "do copy any 1 ahead letter -1 behind",
    "do copy ahead 1 any any -1 behind", "do copy any any 1 ahead any -1 behind",
    "do copy any 1 ahead behind any -1 behind",
    "do do word a", "do word a do word b", "do word a word b", "do word a else do word b", "do word a else word b",
    "do word a else",
    "else do word a", "if has any do word a", "if has any do word a else", "if has any do word a else do",
    "if has any do word a else word b",
    "if has any word a else do word b", "if has any do else do word b", "if has any do word a do word b",
    "if has any do word a otherwise do word b",
    "if has do word a else do word b", "if any do word a else do word b", "has any do word a else do word b",
    "if do word a else do word b",
    "if ends any do word a else do word b", "if Has any do word a else do word b",
    "if has all do word a else do word b",
    "if any has do word a else do word b", "if has any any do word a else do word b",
    "if has any then word a else do word b",
    "if not has any do word a else do word b", "If has any do word a else do word b",
    "if has any do word a Else do word b",
    "if has any do word a else to word b", "if has any to word a else do word b", "do has any do word a else do word b",
    "do if has any do word a else do word b", "if has any if has any do word a else do word b else do word c",
    # A + too many or too few.
    "do +", "do + word a", "do word a +", "do word a + ", "do word a + + word b", "do word a ++ word b", "do word +",
    "do word a + word +",
    "+ do word a", "do word a + do word b", "if has any do word a + else do word b",
    "if has any do word a else do word b +",
    "if has any + do word a else do word b", "if has any do word a else + do word b",
    "if has any do + word a else do word b",
    "do copy any 1 ahead + any -1 behind", "do copy any 1 ahead any -1 behind copy any 1 ahead any -1 behind",
    "do copy any 1 ahead any -1 behind word a", "do word a copy any 1 ahead any -1 behind", "do word a - word b",
    "do word a and word b",
    # Four pieces.
    "do word a + word b + word c + word d", "if has any do word a + word b + word c + word d else do word a",
    "if has any do word a else do word a + word b + word c + word d", "do" + " word a +" * 80 + " word a",
    # Numbers.
    "do copy any +1 ahead any -1 behind", "do copy any 01 ahead any -1 behind", "do copy any 1_ ahead any -1 behind",
    "do copy any _1 ahead any -1 behind", "do copy any 1.0 ahead any -1 behind", "do copy any 1 ahead any -01 behind",
    "do copy any 1 ahead any --1 behind", "do copy any 1 ahead any - 1 behind", "do copy any 1 ahead any -1_ behind",
    "do copy any 0 ahead any -1 behind", "do copy any 3 ahead any -1 behind", "do copy any -3 ahead any -1 behind",
    "do copy any 12 ahead any -1 behind", "do copy any -0 ahead any -1 behind", "do copy any one ahead any -1 behind",
    "do copy any True ahead any -1 behind", "do copy any None ahead any -1 behind", "do copy any 1 ahead any +2 behind",
    "do copy any 0x1 ahead any -1 behind", "do copy any 1, ahead any -1 behind", "do copy any  ahead any -1 behind",
    # Words that are none.
    "do word abcdefghi", "do word _________", "do word a_b_c_d_e", "do word a+b", "do word a*", "do word (a)",
    "do word \"a\"", "do word ~",
    "do word 'a'", "do word a:b", "do word \\", "do word a~", "do word a=b", "do word a + word abcdefghi", "do word !",
    "if has any do word abcdefghi else do word a", "if has any do word a else do word abcdefghi",
    "if has any do word a else do word a+",
    # Something behind the end.
    "do word a .", "do word a;", "do word a do", "do word a word", "do word a if has any",
    "do copy any 1 ahead any -1 behind behind",
    "do copy any 1 ahead any -1 behind any 1 ahead", "if has any do word a else do word b else do word c",
    "if has any do word a else do word b else",
    "if has any do word a else do word b do word c", "if has any do word a else do word b c",
    "do word a " + "a " * 450 + "a",
)


class ShownTest(unittest.TestCase):
    def test_programs_by_hand(self):
        for program, text in WRITTEN:
            with self.subTest(text):
                self.assertIs(check(program), True)
                for again in range(2):
                    assert_same(self, shown(program), text)

    def test_words(self):
        for word, written in WORDS.items():
            with self.subTest(word):
                piece = ("word", word)
                self.assertEqual(shown(("do", (piece,))), "do word " + written)
                self.assertEqual(
                    shown(("if", ("has", "any"), (piece, piece), (DASH, piece))),
                    f"if has any do word {written} + word {written} else do word - + word {written}",
                )

    def test_looks(self):
        for look in LOOKS:
            with self.subTest(look):
                program = ("if", look, (DASH,), (("word", "a"),))
                self.assertEqual(shown(program), f"if {look[0]} {look[1]} do word - else do word a")

    def test_each_deed_and_place(self):
        for deed in ("copy", "raise", "sink"):
            for kind, nth, edge in all_places():
                with self.subTest(deed=deed, kind=kind, nth=nth, edge=edge):
                    place = (kind, nth, edge)
                    first = ("do", ((deed, place, END),))
                    last = ("do", ((deed, BEGIN, place),))
                    self.assertEqual(shown(first), f"do {deed} {kind} {nth} {edge} any -1 behind")
                    self.assertEqual(shown(last), f"do {deed} any 1 ahead {kind} {nth} {edge}")


class ReadTest(unittest.TestCase):
    def assert_read_again(self, program):
        with self.subTest(program):
            for again in range(2):
                assert_same(self, read(shown(program)), program)

    def test_programs_by_hand(self):
        for program, text in WRITTEN:
            with self.subTest(text):
                for again in range(2):
                    assert_same(self, read(text), program)

    def test_words(self):
        for word, written in WORDS.items():
            with self.subTest(word):
                piece = ("word", word)
                assert_same(self, read("do word " + written), ("do", (piece,)))
                self.assert_read_again(("do", (piece, WHOLE, piece)))
                self.assert_read_again(("if", ("has", "any"), (piece, piece), (piece, DASH)))
                self.assert_read_again(("if", ("begins", "great"), (DASH, piece), (piece,)))

    def test_looks(self):
        for look in LOOKS:
            self.assert_read_again(("if", look, (WHOLE, DASH), (DASH, WHOLE, DASH)))

    def test_each_deed_and_place(self):
        for deed in ("copy", "raise", "sink"):
            for place in all_places():
                self.assert_read_again(("do", ((deed, place, END),)))
                row = (WHOLE, (deed, BEGIN, place))
                self.assert_read_again(("if", ("has", "mark"), row, ((deed, place, place), DASH)))

    def test_the_longest_program(self):
        longest = ("raise", ("figure", -2, "behind"), ("figure", -2, "behind"))
        self.assert_read_again(("if", ("begins", "figure"), (longest, longest, longest), (longest, longest, longest)))

    def test_texts_that_are_not_just_as_a_program_is_written(self):
        for text in NOT_WRITTEN:
            with self.subTest(text):
                assert_refused(self, NoProgram, read, text)

    def test_every_sign_alone(self):
        for code in range(32, 127):
            if code != 37:
                assert_refused(self, NoProgram, read, chr(code))

    def test_whatever_is_read_is_written_just_so(self):
        for program, text in WRITTEN:
            for other in almost(text):
                with self.subTest(other):
                    try:
                        told = read(other)
                    except NoProgram:
                        self.assertNotEqual(other, text)
                    else:
                        self.assertIs(check(told), True)
                        self.assertEqual(shown(told), other)

    def test_blanks_between_and_around_are_refused(self):
        for program, text in WRITTEN:
            parts = text.split(" ")
            for number in range(len(parts) + 1):
                with self.subTest(text=text, number=number):
                    assert_refused(self, NoProgram, read, " ".join(parts[:number] + [""] + parts[number:]))

    def test_a_part_left_out_is_refused(self):
        for program, text in WRITTEN:
            parts = text.split(" ")
            for number in range(len(parts)):
                with self.subTest(text=text, number=number):
                    assert_refused(self, NoProgram, read, " ".join(parts[:number] + parts[number + 1:]))


def almost(text):
    """The texts in which one sign is another one, is left out or is put in, and those with two parts exchanged."""
    signs = "a1-+_ ~"
    for number in range(len(text) + 1):
        yield text[:number] + text[number + 1:]
        for sign in signs:
            yield text[:number] + sign + text[number:]
            yield text[:number] + sign + text[number + 1:]
    parts = text.split(" ")
    for number in range(len(parts) - 1):
        yield " ".join(parts[:number] + [parts[number + 1], parts[number]] + parts[number + 2:])


if __name__ == "__main__":
    unittest.main()
