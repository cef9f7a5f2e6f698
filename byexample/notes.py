"""Programs written as texts, and read from them."""

from byexample.errors import NoProgram
from byexample.programs import check

NTH_BY_PART = {"1": 1, "2": 2, "-1": -1, "-2": -2}


def shown_place(place):
    return " ".join([place[0], str(place[1]), place[2]])


def shown_piece(piece):
    if piece[0] == "word":
        return "word " + piece[1].replace(" ", "_")
    return " ".join([piece[0], shown_place(piece[1]), shown_place(piece[2])])


def shown_row(row):
    return "do " + " + ".join([shown_piece(piece) for piece in row])


def shown(program):
    if program[0] == "do":
        return shown_row(program[1])
    look = " ".join(program[1])
    return " ".join(["if", look, shown_row(program[2]), "else", shown_row(program[3])])


class Parts:
    def __init__(self, text):
        self.parts = text.split(" ")
        self.taken = 0

    def take(self):
        # Behind the end empty parts are taken: what is made of them is no program, and check refuses it.
        part = self.parts[self.taken] if self.taken < len(self.parts) else ""
        self.taken += 1
        return part


def take_place(parts):
    kind = parts.take()
    nth = NTH_BY_PART.get(parts.take())
    edge = parts.take()
    return (kind, nth, edge)


def take_piece(parts):
    deed = parts.take()
    if deed == "word":
        return ("word", parts.take().replace("_", " "))
    start = take_place(parts)
    end = take_place(parts)
    return (deed, start, end)


def take_row(parts):
    parts.take()
    pieces = [take_piece(parts)]
    # The part behind the row is taken with it: it is an else, or there is none.
    while parts.take() == "+":
        pieces.append(take_piece(parts))
    return tuple(pieces)


def take_program(parts):
    if parts.parts[0] != "if":
        return ("do", take_row(parts))
    parts.take()
    condition = parts.take()
    kind = parts.take()
    row = take_row(parts)
    other_row = take_row(parts)
    return ("if", (condition, kind), row, other_row)


def read(text):
    program = take_program(Parts(text))
    check(program)
    # Some parts were passed over unseen, and some may be left; where they are not as they should be it shows here.
    if shown(program) != text:
        raise NoProgram("no program is written so")
    return program
