"""Programs: what they are, what they answer and what they cost."""

from byexample.errors import NoProgram
from byexample.pieces import DEEDS, row_answer, row_price
from byexample.places import is_place, is_word_among
from byexample.signs import KINDS, is_of, is_text

LONGEST_WORD = 8

ROW_LENGTHS = (1, 2, 3)


def is_tuple_of(length, thing):
    return isinstance(thing, tuple) and len(thing) == length


def is_word(thing):
    return is_text(thing) and 1 <= len(thing) <= LONGEST_WORD


def is_word_piece(thing):
    return is_tuple_of(2, thing) and is_word_among(thing[0], ("word",)) and is_word(thing[1])


def is_stretch(thing):
    return is_tuple_of(3, thing) and is_word_among(thing[0], DEEDS) and is_place(thing[1]) and is_place(thing[2])


def is_row(thing):
    # The length is asked first, so that a very long tuple is not gone through.
    if not isinstance(thing, tuple) or len(thing) not in ROW_LENGTHS:
        return False
    return all([is_word_piece(piece) or is_stretch(piece) for piece in thing])


def is_look(thing):
    return is_tuple_of(2, thing) and is_word_among(thing[0], ("has", "begins")) and is_word_among(thing[1], KINDS)


def is_program(thing):
    if is_tuple_of(2, thing):
        return is_word_among(thing[0], ("do",)) and is_row(thing[1])
    if is_tuple_of(4, thing):
        return is_word_among(thing[0], ("if",)) and is_look(thing[1]) and is_row(thing[2]) and is_row(thing[3])
    return False


def check(thing):
    if not is_program(thing):
        raise NoProgram("this is no program")
    return True


def holds(look, text):
    # Where the text has no signs the slice has none either, so that nothing holds.
    signs = text if look[0] == "has" else text[:1]
    return any([is_of(look[1], sign) for sign in signs])


def run(program, text):
    if program[0] == "do":
        return row_answer(program[1], text)
    row = program[2] if holds(program[1], text) else program[3]
    return row_answer(row, text)


def price(program):
    if program[0] == "do":
        return row_price(program[1])
    look_price = 5 if program[1][0] == "has" else 6
    return look_price + row_price(program[2]) + row_price(program[3])
