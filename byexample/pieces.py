"""Pieces and rows: what they answer and what they cost."""

from byexample.places import spot

DEEDS = ("copy", "raise", "sink")


def done_to(deed, signs):
    if deed == "copy":
        return signs
    return signs.upper() if deed == "raise" else signs.lower()


def stretch_answer(deed, first, last, text):
    # The places were looked for ahead of this: first and last are their spots, None where they were not found.
    if first is None or last is None or first >= last:
        return None
    return done_to(deed, text[first:last])


def answer_of(piece, text):
    deed = piece[0]
    if deed == "word":
        return piece[1]
    return stretch_answer(deed, spot(piece[1], text), spot(piece[2], text), text)


def row_answer(row, text):
    answers = []
    for piece in row:
        answer = answer_of(piece, text)
        if answer is None:
            return None
        answers.append(answer)
    return "".join(answers)


def place_price(place):
    nth_price = 1 if abs(place[1]) == 1 else 3
    kind_price = 0 if place[0] == "any" else 1
    return nth_price + kind_price


def piece_price(piece):
    deed = piece[0]
    if deed == "word":
        return 3 + 2 * len(piece[1])
    deed_price = 0 if deed == "copy" else 2
    return deed_price + place_price(piece[1]) + place_price(piece[2])


def row_price(row):
    return sum([piece_price(piece) for piece in row])
