"""Pieces and rows: what they answer and what they cost."""

from byexample.places import spot

DEEDS = ("copy", "raise", "sink")


def stretch(start, end, text):
    first = spot(start, text)
    last = spot(end, text)
    if first is None or last is None or first >= last:
        return None
    return text[first:last]


def done_to(deed, signs):
    if deed == "copy":
        return signs
    return signs.upper() if deed == "raise" else signs.lower()


def answer_of(piece, text):
    deed = piece[0]
    if deed == "word":
        return piece[1]
    signs = stretch(piece[1], piece[2], text)
    return None if signs is None else done_to(deed, signs)


def row_answer(row, text):
    answers = []
    for piece in row:
        answer = answer_of(piece, text)
        if answer is None:
            return None
        answers.append(answer)
    return "".join(answers)


def place_price(place):
    nth_price = 1 if abs(place[1]) == 1 else 3
    kind_price = 0 if place[0] == "any" else 1
    return nth_price + kind_price


def piece_price(piece):
    deed = piece[0]
    if deed == "word":
        return 3 + 2 * len(piece[1])
    deed_price = 0 if deed == "copy" else 2
    return deed_price + place_price(piece[1]) + place_price(piece[2])


def row_price(row):
    return sum([piece_price(piece) for piece in row])
