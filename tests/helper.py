"""What several tests ask alike, and what they ask it of."""

import collections
import functools

from byexample import errors
from byexample.pieces import answer_of, piece_price, row_answer
from byexample.places import all_places
from byexample.programs import holds, run

REFUSALS = (errors.NoProgram, errors.NoNumber, errors.NothingFits, errors.Twice, errors.NoExample)

STRETCHES = [
    (deed, start, end) for deed in ("copy", "raise", "sink") for start in all_places() for end in all_places()
]

BEGIN = ("any", 1, "ahead")
END = ("any", -1, "behind")
WHOLE = ("copy", BEGIN, END)

NAMES = [("Ada Byron", "A. BYRON"), ("Alan Turing", "A. TURING"), ("Grace Hopper", "G. HOPPER")]
LONGEST = "abcd EFGH 01-23. ijKL/45"
SIX = [
    ("Ada Byron, 1815", "1815- Byron"),
    ("Alan Turing, 1912", "1912- Turing"),
    ("Kurt Godel, 1906", "1906- Godel"),
    ("Grace Hopper, 1906", "1906- Hopper"),
    ("Emmy Noether, 1882", "1882- Noether"),
    ("Georg Cantor, 1845", "1845- Cantor"),
]
LONG_TEXTS = (
    LONGEST, "Ada Byron, 1815-12/10 xy", "aaaaaaaaaaaaAAAAAAAAAA-1", "aAaAaAaAaAaAaAaAaAaAa 12",
    "12345678901234567890 aBc", "-./, -./, -./, -./, aA01",
)

# Words and examples that leave rows over; the kinds of cases are told ahead of each.
CASES = (
    # One example: an answer that is a stretch, a word, both.
    ([], [("Ada", "Ada")]),
    (["Ada"], [("Ada", "Ada")]),
    (["-", "x"], [("ab", "ab-x")]),
    (["a"], [("", "a")]),
    (["a", "aa", "aaa"], [("", "aaa")]),
    (["a", "aa"], [("a", "aa")]),
    (["."], [("Ada Byron", "A.B")]),
    ([" ", "A"], [("a b", "A B")]),
    # Several examples.
    ([". "], NAMES),
    ([". ", ".", " "], NAMES),
    (["- ", "-", " ", "1", "a", "Z"], SIX),
    ([], [("abc", "ABC"), ("x", "X")]),
    (["-"], [("ab1", "ab-1"), ("q22", "q-22")]),
    (["yes"], [("a", "yes"), ("B", "yes"), ("", "yes")]),
    # Answers longer than any text.
    ([], [(LONGEST, LONGEST * 3)]),
    (["x"], [(LONGEST, LONGEST + LONGEST.upper() + LONGEST.lower())]),
    ([], [("aaaaaaaaaaaaaaaaaaaaaaaa", "a" * 72)]),
    (["a", "A", "-", " ", "1", "aaaaaaaa"], [(text, text * 3) for text in LONG_TEXTS]),
    (["a", "A", "-", " ", "1", "aaaaaaaa"], [(text, text.upper() + text.lower() + "a") for text in LONG_TEXTS]),
    (["abcdefgh"], [("1", "abcdefgh" * 3)]),
    ([], [("aaaaaaaaaaaaaaaaaaaaaaaa", "A" * 50), ("bbbbbbbbbbbbbbbbbbbbbbbb", "B" * 50)]),
    (["aaaaaaaa", "a", "aa", "aaa", "A", "-"], [("aAaAaAaAaAaAaAaAaAaAaAaA", "a" * 30), ("AAaa", "a" * 10)]),
)

# Words and examples that nothing fits.
EMPTY_CASES = (
    ([], [("a", "b")]),
    (["a"], [("a", "")]),
    ([], [("", "")]),
    (["a"], [("a", ""), ("b", "b")]),
    (["b"], [("a", "b"), ("c", "")]),
    ([], [("", "a")]),
    (["a"], [("", "aaaa")]),
    (["a", "b"], [("x", "a"), ("y", "b")]),
    ([], [("abcd", "dcba")]),
    ([], [("a", "a"), ("b", "a")]),
    (["abcdefgh"], [(LONGEST, "z" * 72)]),
    (["x"], [(LONGEST, LONGEST * 3 + "x")]),
    (["-"], [("ab", "ab-"), ("AB", "-AB")]),
)

THREE_LOOKS = [("has", "figure"), ("begins", "great"), ("has", "mark")]
SIX_WORDS = ["- ", "-", " ", "1", "a", "Z"]

# Words, looks and examples that leave programs over.
KEEP_CASES = (
    # No looks.
    ([], [], []),
    ([". "], [], NAMES),
    (["-", "a"], [], [("a", "a-a"), ("1", "1-a")]),
    # No examples.
    (["a"], [("has", "any")], []),
    (SIX_WORDS, THREE_LOOKS, []),
    # All examples come to the first row, or none does.
    ([". "], [("begins", "great")], NAMES),
    ([". "], [("has", "figure")], NAMES),
    (["x"], [("begins", "any")], [("", "x")]),
    (["x"], [("begins", "any")], [("b", "x")]),
    # Some come to the one row, some to the other: do programs are left, too, or none.
    (["-"], [("has", "figure")], [("ab", "ab-"), ("a1", "a1-"), ("22", "22-")]),
    (["-"], [("has", "figure")], [("ab", "AB"), ("a1", "a1-"), ("22", "22-"), ("q", "Q")]),
    (["q"], [("has", "any")], [("", "q"), ("Z", "qqq")]),
    (["q", "qq"], [("begins", "great")], [("", "q"), ("Z", "qqq")]),
    # Several looks part them, alike or not.
    (["yes", "no"], THREE_LOOKS, [("a1", "yes"), ("b", "no"), ("77", "yes")]),
    (["yes", "no"], [("has", "figure"), ("begins", "figure"), ("has", "any")], [("7", "yes"), ("b", "no")]),
    (["x"], [("begins", "figure"), ("has", "figure"), ("begins", "any")], [("", "x"), ("1", "1x"), ("a1", "a1x")]),
    (SIX_WORDS, THREE_LOOKS, SIX),
    (SIX_WORDS, [("has", "great"), ("begins", "small"), ("begins", "mark")], [(text, text * 3) for text in LONG_TEXTS]),
)

# Words, looks and examples that leave nothing over.
EMPTY_KEEP_CASES = (
    ([], [], [("a", "b")]),
    ([], THREE_LOOKS, [("a", "b")]),
    (["a"], [("has", "small")], [("a", "")]),
    ([], [("has", "any")], [("", "")]),
    (["a", "b"], [("has", "any")], [("x", "a"), ("y", "b")]),
    (["a", "b"], [("has", "figure"), ("has", "great")], [("x", "a"), ("1", "b"), ("Y", "b"), ("-", "aaaa")]),
    # For one of the rows nothing fits.
    (["a"], [("has", "figure")], [("x", "a"), ("1", "b")]),
    (["a"], [("has", "figure")], [("x", "b"), ("1", "a")]),
)

# Pieces of every sort, of which rows are made and gone through one by one.
SMALL_SET = [
    ("word", "a"), ("word", "b"), ("word", "aa"), ("word", "-"), WHOLE, ("raise", BEGIN, END), ("sink", BEGIN, END),
    ("copy", BEGIN, ("any", 1, "behind")), ("copy", ("any", 1, "behind"), END), ("copy", ("any", 2, "ahead"), END),
    ("copy", BEGIN, ("any", -1, "ahead")), ("copy", ("any", -1, "ahead"), END), ("copy", END, BEGIN),
    ("raise", ("small", 1, "ahead"), ("small", 1, "behind")),
    ("sink", ("great", 1, "ahead"), ("great", -1, "behind")),
    ("copy", ("figure", 1, "ahead"), ("figure", -1, "behind")),
    ("copy", ("mark", 1, "ahead"), ("mark", 1, "behind")),
    ("copy", ("small", 2, "behind"), ("any", -2, "ahead")),
]


def assert_refused(case, refusal, function, *things):
    """Each time it is asked, the function refuses the things with the refusal, and with none of the other four."""
    for again in range(2):
        with case.assertRaises(refusal) as taken:
            function(*things)
        case.assertIsInstance(taken.exception, errors.FitError)
        case.assertIsInstance(taken.exception, ValueError)
        for other in REFUSALS:
            if other is not refusal:
                case.assertNotIsInstance(taken.exception, other)


def assert_same(case, told, wanted):
    """Equal, and of the same kinds all the way down: True is not taken for 1, nor a list for a tuple."""
    case.assertEqual(told, wanted)
    case.assertIs(type(told), type(wanted))
    if type(wanted) in (tuple, list):
        for part, other in zip(told, wanted, strict=True):
            assert_same(case, part, other)


def pieces_with(words):
    return [("word", word) for word in words] + STRETCHES


@functools.cache
def stretch_answers(text):
    return [answer_of(piece, text) for piece in STRETCHES]


def piece_answers(words, texts):
    """For each piece, words ahead, the tuple of its answers to the texts."""
    if not texts:
        return [() for piece in pieces_with(words)]
    return [(word,) * len(texts) for word in words] + list(zip(*[stretch_answers(text) for text in texts]))


def fits(row, words, examples):
    for piece in row:
        if piece[0] == "word" and piece[1] not in words:
            return False
    return all(row_answer(row, text) == answer for text, answer in examples)


def program_fits(program, words, looks, examples):
    """Whether the program is one of those left, by what it answers, its words and its look."""
    rows = program[1:] if program[0] == "do" else program[2:]
    if program[0] == "if" and program[1] not in looks:
        return False
    used = [piece[1] for row in rows for piece in row if piece[0] == "word"]
    return set(used) <= set(words) and all(run(program, text) == answer for text, answer in examples)


def parted(look, examples):
    """The examples for which the look holds, and the other ones."""
    coming = [example for example in examples if holds(look, example[0])]
    return coming, [example for example in examples if example not in coming]


def counted(words, examples):
    """How many rows fit, counted by the answers of all pieces, whatever the table does."""
    pieces = collections.Counter(piece_answers(words, [text for text, answer in examples]))

    @functools.cache
    def ways(rest, length):
        if length == 0:
            return 0 if any(rest) else 1
        return sum(number * ways(behind, length - 1) for behind, number in ways_on(rest, pieces))

    wanted = tuple(answer for text, answer in examples)
    return sum(ways(wanted, length) for length in (1, 2, 3))


def ways_on(rest, by_answers):
    """What is left of the rest behind each group of pieces that begins it, and what is kept of that group."""
    for answers, kept in by_answers.items():
        if all(answer is not None and part.startswith(answer) for part, answer in zip(rest, answers)):
            yield tuple(part[len(answer):] for part, answer in zip(rest, answers)), kept


def counted_programs(words, looks, examples):
    """How many programs are left, do and if, by the counts of their rows."""
    number = counted(words, examples)
    for look in looks:
        coming, others = parted(look, examples)
        number += counted(words, coming) * counted(words, others)
    return number


def least_row_price(words, examples):
    """The price of the cheapest row that fits, or None, by the answers and prices of all pieces."""
    prices = {}
    for piece, answers in zip(pieces_with(words), piece_answers(words, [text for text, answer in examples])):
        prices[answers] = min(piece_price(piece), prices.get(answers, 10 ** 6))

    @functools.cache
    def cheapest(rest, length):
        if length == 0:
            return 10 ** 6 if any(rest) else 0
        return min([price + cheapest(behind, length - 1) for behind, price in ways_on(rest, prices)], default=10 ** 6)

    wanted = tuple(answer for text, answer in examples)
    found = min(cheapest(wanted, length) for length in (1, 2, 3))
    return found if found < 10 ** 6 else None


def least_price(words, looks, examples):
    """The price of the least program left, or None."""
    prices = [least_row_price(words, examples)]
    for look in looks:
        row_prices = [least_row_price(words, part) for part in parted(look, examples)]
        if None not in row_prices:
            prices.append(sum(row_prices) + {"has": 5, "begins": 6}[look[0]])
    return min([price for price in prices if price is not None], default=None)


def row_spread(words, examples, text):
    """How many rows that fit give which answer to the text; for texts with few answers, as all are gone through."""
    pieces = collections.defaultdict(collections.Counter)
    for answers in piece_answers(words, [example[0] for example in examples] + [text]):
        pieces[answers[:-1]][answers[-1]] += 1

    @functools.cache
    def spread(rest, length):
        found = collections.Counter()
        if length == 0:
            found[""] = 0 if any(rest) else 1
            return found
        for behind, firsts in ways_on(rest, pieces):
            for tail, number in spread(behind, length - 1).items():
                for first, times in firsts.items():
                    found[None if first is None or tail is None else first + tail] += times * number
        assert len(found) < 1000, "too many answers to be gone through"
        return found

    wanted = tuple(answer for example, answer in examples)
    return sum([spread(wanted, length) for length in (1, 2, 3)], collections.Counter())


def program_spread(words, looks, examples, text):
    """How many programs left give which answer to the text."""
    found = row_spread(words, examples, text)
    for look in looks:
        coming, others = parted(look, examples)
        asked, unasked = (coming, others) if holds(look, text) else (others, coming)
        times = counted(words, unasked)
        if times > 0:
            for answer, number in row_spread(words, asked, text).items():
                found[answer] += times * number
    return found


def some_numbers(count):
    """All numbers of a small table; of a great one the first ones, the last ones and some between."""
    if count <= 600:
        return list(range(count))
    numbers = set(range(20)) | set(range(count - 20, count)) | {count * part // 97 for part in range(97)}
    return sorted(numbers)
