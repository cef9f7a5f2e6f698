"""Places, and where they are found in a text."""

from byexample.signs import KINDS, is_of

NTHS = (1, 2, -1, -2)

EDGES = ("ahead", "behind")


def all_places():
    places = []
    for kind in KINDS:
        for nth in NTHS:
            for edge in EDGES:
                places.append((kind, nth, edge))
    return places


def is_word_among(thing, words):
    # A thing of another kind may call itself equal to a word, so its kind is asked first.
    return isinstance(thing, str) and thing in words


def is_nth(thing):
    # True is equal to 1, and so is 1.0, but neither is a whole number.
    return isinstance(thing, int) and not isinstance(thing, bool) and thing in NTHS


def is_place(thing):
    if not isinstance(thing, tuple) or len(thing) != 3:
        return False
    return is_word_among(thing[0], KINDS) and is_nth(thing[1]) and is_word_among(thing[2], EDGES)


def spot(place, text):
    kind = place[0]
    nth = place[1]
    numbers = [number for number, sign in enumerate(text) if is_of(kind, sign)]
    if len(numbers) < abs(nth):
        return None
    # From the front the first is nth 1, but index 0; from the back nth and index are the same.
    number = numbers[nth - 1] if nth > 0 else numbers[nth]
    return number if place[2] == "ahead" else number + 1
